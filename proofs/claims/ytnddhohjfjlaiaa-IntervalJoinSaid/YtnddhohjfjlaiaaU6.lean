/-
  The walk of IntervalJoin.
-/
import Derived.Test.YtnddhohjfjlaiaaU3
namespace Go.Proofs.Ytnddhohjfjlaiaa
open Go.RowKit
set_option linter.unusedVariables false
set_option linter.unusedSimpArgs false

theorem jn_n1 (u v x y : Rv) (xs ys xs' ys' zs ws zs' ws' : List Nat) (o : Int) (w : World) (hu : Rx w u xs ys) (hv : Rx w v xs' ys') (hx : Rx w x zs ws) (hy : Rx w y zs' ws') (hh : ¬ (Lu 2 u ∧ Lu 2 v ∧ (isC u.s xs ys && isC v.s xs' ys' && decide (rv u.s xs ys ≤ rv v.s xs' ys')) = true)) : Calls Try.prog 7 #[.agg #[.bool u.s, .slice u.A u.n u.c, .slice u.B u.m u.d, .bool v.s, .slice v.A v.n v.c, .slice v.B v.m v.d], .agg #[.bool x.s, .slice x.A x.n x.c, .slice x.B x.m x.d, .bool y.s, .slice y.A y.n y.c, .slice y.B y.m y.d], .int .u8 o] w (fun e w' => e = .returned (.bool true) ∧ Below w.heap.size w w') := by
  have HN := hide hh
  clear hh hx hy
  have hu_1 := hu.alloc (EV u v)
  have hv_1 := hv.alloc (EV u v)
  have ba_1 : Sv ((w).alloc (EV u v)) (w.heap.size) u v := by have h_ := Sv.new (w) u v; exact h_
  have F1 := (Below.refl w.heap.size w).alloc (Nat.le_refl _) (EV u v)
  have hu_2 := hu_1.alloc (EV x y)
  have hv_2 := hv_1.alloc (EV x y)
  have ba_2 := ba_1.alloc (EV x y)
  have bb_2 : Sv (((w).alloc (EV u v)).alloc (EV x y)) (w.heap.size + 1) x y := by have h_ := Sv.new ((w).alloc (EV u v)) x y; simp only [World.size_alloc] at h_; exact h_
  have F2 := F1.alloc F1.size (EV x y)
  go_enter Try.func7, Try.ntmps7
  have ba_u2 := ba_2.cell0
  have ba_v2 := ba_2.cell1
  have ba_w2 := ba_2.cell2
  have ba_x2 := ba_2.cell3
  have ba_y2 := ba_2.cell4
  have ba_z2 := ba_2.cell5
  have bb_u2 := bb_2.cell0
  have bb_v2 := bb_2.cell1
  have bb_w2 := bb_2.cell2
  have bb_x2 := bb_2.cell3
  have bb_y2 := bb_2.cell4
  have bb_z2 := bb_2.cell5
  go_wp2_with fail
  refine (awake6 _).mono ?_
  rintro e w3 ⟨rfl, b3⟩
  have hu_3 := hu_2.below b3
  have hv_3 := hv_2.below b3
  have ba_3 := ba_2.below b3 ba_2.lt
  have bb_3 := bb_2.below b3 bb_2.lt
  have F3 := below_then F2 (Nat.le_refl _) b3
  have ba_u3 := ba_3.cell0
  have ba_v3 := ba_3.cell1
  have ba_w3 := ba_3.cell2
  have ba_x3 := ba_3.cell3
  have ba_y3 := ba_3.cell4
  have ba_z3 := ba_3.cell5
  have bb_u3 := bb_3.cell0
  have bb_v3 := bb_3.cell1
  have bb_w3 := bb_3.cell2
  have bb_x3 := bb_3.cell3
  have bb_y3 := bb_3.cell4
  have bb_z3 := bb_3.cell5
  go_wp2_with fail
  refine (small_no _ _ xs ys xs' ys' _ hu_3 hv_3 HN.out).mono ?_
  rintro e w4 ⟨rfl, b4⟩
  have hu_4 := hu_3.below b4
  have hv_4 := hv_3.below b4
  have ba_4 := ba_3.below b4 ba_3.lt
  have bb_4 := bb_3.below b4 bb_3.lt
  have F4 := below_then F3 (Nat.le_refl _) b4
  have ba_u4 := ba_4.cell0
  have ba_v4 := ba_4.cell1
  have ba_w4 := ba_4.cell2
  have ba_x4 := ba_4.cell3
  have ba_y4 := ba_4.cell4
  have ba_z4 := ba_4.cell5
  have bb_u4 := bb_4.cell0
  have bb_v4 := bb_4.cell1
  have bb_w4 := bb_4.cell2
  have bb_x4 := bb_4.cell3
  have bb_y4 := bb_4.cell4
  have bb_z4 := bb_4.cell5
  go_wp2
  go_ret
  exact ⟨rfl, F4⟩
theorem jn_n2 (u v x y : Rv) (xs ys xs' ys' zs ws zs' ws' : List Nat) (o : Int) (w : World) (hu : Rx w u xs ys) (hv : Rx w v xs' ys') (hx : Rx w x zs ws) (hy : Rx w y zs' ws') (ha : (Lu 2 u ∧ Lu 2 v ∧ (isC u.s xs ys && isC v.s xs' ys' && decide (rv u.s xs ys ≤ rv v.s xs' ys')) = true)) (hh : ¬ (Lu 2 x ∧ Lu 2 y ∧ (isC x.s zs ws && isC y.s zs' ws' && decide (rv x.s zs ws ≤ rv y.s zs' ws')) = true)) : Calls Try.prog 7 #[.agg #[.bool u.s, .slice u.A u.n u.c, .slice u.B u.m u.d, .bool v.s, .slice v.A v.n v.c, .slice v.B v.m v.d], .agg #[.bool x.s, .slice x.A x.n x.c, .slice x.B x.m x.d, .bool y.s, .slice y.A y.n y.c, .slice y.B y.m y.d], .int .u8 o] w (fun e w' => e = .returned (.bool true) ∧ Below w.heap.size w w') := by
  have HN := hide hh
  have HA := hide ha
  clear hh ha
  have hu_1 := hu.alloc (EV u v)
  have hv_1 := hv.alloc (EV u v)
  have hx_1 := hx.alloc (EV u v)
  have hy_1 := hy.alloc (EV u v)
  have ba_1 : Sv ((w).alloc (EV u v)) (w.heap.size) u v := by have h_ := Sv.new (w) u v; exact h_
  have F1 := (Below.refl w.heap.size w).alloc (Nat.le_refl _) (EV u v)
  have hu_2 := hu_1.alloc (EV x y)
  have hv_2 := hv_1.alloc (EV x y)
  have hx_2 := hx_1.alloc (EV x y)
  have hy_2 := hy_1.alloc (EV x y)
  have ba_2 := ba_1.alloc (EV x y)
  have bb_2 : Sv (((w).alloc (EV u v)).alloc (EV x y)) (w.heap.size + 1) x y := by have h_ := Sv.new ((w).alloc (EV u v)) x y; simp only [World.size_alloc] at h_; exact h_
  have F2 := F1.alloc F1.size (EV x y)
  go_enter Try.func7, Try.ntmps7
  have ba_u2 := ba_2.cell0
  have ba_v2 := ba_2.cell1
  have ba_w2 := ba_2.cell2
  have ba_x2 := ba_2.cell3
  have ba_y2 := ba_2.cell4
  have ba_z2 := ba_2.cell5
  have bb_u2 := bb_2.cell0
  have bb_v2 := bb_2.cell1
  have bb_w2 := bb_2.cell2
  have bb_x2 := bb_2.cell3
  have bb_y2 := bb_2.cell4
  have bb_z2 := bb_2.cell5
  go_wp2_with fail
  refine (awake6 _).mono ?_
  rintro e w3 ⟨rfl, b3⟩
  have hu_3 := hu_2.below b3
  have hv_3 := hv_2.below b3
  have hx_3 := hx_2.below b3
  have hy_3 := hy_2.below b3
  have ba_3 := ba_2.below b3 ba_2.lt
  have bb_3 := bb_2.below b3 bb_2.lt
  have F3 := below_then F2 (Nat.le_refl _) b3
  have ba_u3 := ba_3.cell0
  have ba_v3 := ba_3.cell1
  have ba_w3 := ba_3.cell2
  have ba_x3 := ba_3.cell3
  have ba_y3 := ba_3.cell4
  have ba_z3 := ba_3.cell5
  have bb_u3 := bb_3.cell0
  have bb_v3 := bb_3.cell1
  have bb_w3 := bb_3.cell2
  have bb_x3 := bb_3.cell3
  have bb_y3 := bb_3.cell4
  have bb_z3 := bb_3.cell5
  go_wp2_with fail
  refine (small_v _ _ xs ys xs' ys' true _ HA.out.2.2 hu_3 hv_3 HA.out.1 HA.out.2.1).mono ?_
  rintro e w4 ⟨rfl, b4⟩
  have hu_4 := hu_3.below b4
  have hv_4 := hv_3.below b4
  have hx_4 := hx_3.below b4
  have hy_4 := hy_3.below b4
  have ba_4 := ba_3.below b4 ba_3.lt
  have bb_4 := bb_3.below b4 bb_3.lt
  have F4 := below_then F3 (Nat.le_refl _) b4
  have ba_u4 := ba_4.cell0
  have ba_v4 := ba_4.cell1
  have ba_w4 := ba_4.cell2
  have ba_x4 := ba_4.cell3
  have ba_y4 := ba_4.cell4
  have ba_z4 := ba_4.cell5
  have bb_u4 := bb_4.cell0
  have bb_v4 := bb_4.cell1
  have bb_w4 := bb_4.cell2
  have bb_x4 := bb_4.cell3
  have bb_y4 := bb_4.cell4
  have bb_z4 := bb_4.cell5
  go_wp2_with fail
  refine (small_no _ _ zs ws zs' ws' _ hx_4 hy_4 HN.out).mono ?_
  rintro e w5 ⟨rfl, b5⟩
  have hx_5 := hx_4.below b5
  have hy_5 := hy_4.below b5
  have ba_5 := ba_4.below b5 ba_4.lt
  have bb_5 := bb_4.below b5 bb_4.lt
  have F5 := below_then F4 (Nat.le_refl _) b5
  have ba_u5 := ba_5.cell0
  have ba_v5 := ba_5.cell1
  have ba_w5 := ba_5.cell2
  have ba_x5 := ba_5.cell3
  have ba_y5 := ba_5.cell4
  have ba_z5 := ba_5.cell5
  have bb_u5 := bb_5.cell0
  have bb_v5 := bb_5.cell1
  have bb_w5 := bb_5.cell2
  have bb_x5 := bb_5.cell3
  have bb_y5 := bb_5.cell4
  have bb_z5 := bb_5.cell5
  go_wp2
  go_ret
  exact ⟨rfl, F5⟩
set_option maxRecDepth 50000 in
set_option maxHeartbeats 8000000 in
theorem jn_yt (u v x y : Rv) (xs ys xs' ys' zs ws zs' ws' : List Nat) (o : Int) (p q p' q' : Rat) (w : World) (ho : 0 ≤ o ∧ o < 256) (hu : Rx w u xs ys) (hv : Rx w v xs' ys') (hx : Rx w x zs ws) (hy : Rx w y zs' ws') (ha : (Lu 2 u ∧ Lu 2 v ∧ (isC u.s xs ys && isC v.s xs' ys' && decide (rv u.s xs ys ≤ rv v.s xs' ys')) = true)) (hb : (Lu 2 x ∧ Lu 2 y ∧ (isC x.s zs ws && isC y.s zs' ws' && decide (rv x.s zs ws ≤ rv y.s zs' ws')) = true)) (ku : Cu w u p) (kv : Cu w v q) (kx : Cu w x p') (ky : Cu w y q') (hpq : p ≤ q) (hpq' : p' ≤ q') (sp2 : Qs 2 p) (sq2 : Qs 2 q) (sp2' : Qs 2 p') (sq2' : Qs 2 q') (hm : max p p' ≤ min q q') (hc : (decide (p ≤ min p p' + ((o : Rat) / ((255 : Int) : Rat)) * (max q q' - min p p')) && decide (min p p' + ((o : Rat) / ((255 : Int) : Rat)) * (max q q' - min p p') ≤ q)) = true) : Calls Try.prog 7 #[.agg #[.bool u.s, .slice u.A u.n u.c, .slice u.B u.m u.d, .bool v.s, .slice v.A v.n v.c, .slice v.B v.m v.d], .agg #[.bool x.s, .slice x.A x.n x.c, .slice x.B x.m x.d, .bool y.s, .slice y.A y.n y.c, .slice y.B y.m y.d], .int .u8 o] w (fun e w' => e = .returned (.bool true) ∧ Below w.heap.size w w') := by
  have HA := hide ha
  have HB := hide hb
  have sp := sp2.m (show 2 ≤ 100 by decide)
  have sq := sq2.m (show 2 ≤ 100 by decide)
  have sp' := sp2'.m (show 2 ≤ 100 by decide)
  have sq' := sq2'.m (show 2 ≤ 100 by decide)
  have la := (ku.len sp2).mono (show 2 ≤ 4000 by decide)
  have lc := (kv.len sq2).mono (show 2 ≤ 4000 by decide)
  have lx := (kx.len sp2').mono (show 2 ≤ 4000 by decide)
  have ly := (ky.len sq2').mono (show 2 ≤ 4000 by decide)
  obtain ⟨J1, hJ1⟩ : ∃ z, min p p' = z := ⟨_, rfl⟩
  obtain ⟨J2, hJ2⟩ : ∃ z, max q q' = z := ⟨_, rfl⟩
  have sJ1 : Qs 2 J1 := by rw [← hJ1]; exact qs_min sp2 sp2'
  have sJ2 : Qs 2 J2 := by rw [← hJ2]; exact qs_max sq2 sq2'
  have j1 : J1 ≤ p := by rw [← hJ1]; exact mn_l _ _
  have j2 : J1 ≤ p' := by rw [← hJ1]; exact mn_r _ _
  have j3 : q ≤ J2 := by rw [← hJ2]; exact mx_l _ _
  have j4 : q' ≤ J2 := by rw [← hJ2]; exact mx_r _ _
  have hJ : J1 ≤ J2 := Rat.le_trans j1 (Rat.le_trans hpq j3)
  obtain ⟨X, hX⟩ : ∃ X, J1 + (((o : Int) : Rat) / ((255 : Int) : Rat)) * (J2 - J1) = X := ⟨_, rfl⟩
  have sX := at_size ho sJ1 sJ2 hX
  obtain ⟨r2, hr2⟩ : ∃ r, (decide (p ≤ X) && decide (X ≤ q)) = r := ⟨_, rfl⟩
  obtain ⟨r3, hr3⟩ : ∃ r, (decide (p' ≤ X) && decide (X ≤ q')) = r := ⟨_, rfl⟩
  obtain ⟨r9, hr9⟩ : ∃ r, (decide (p' ≤ p) && decide (q ≤ q')) = r := ⟨_, rfl⟩
  rw [hJ1, hJ2, hX, hr2] at hc
  subst hc
  obtain ⟨M, hM⟩ : ∃ z, max p p' = z := ⟨_, rfl⟩
  obtain ⟨N, hN⟩ : ∃ z, min q q' = z := ⟨_, rfl⟩
  have sM : Qs 2 M := by rw [← hM]; exact qs_max sp2 sp2'
  have sN : Qs 2 N := by rw [← hN]; exact qs_min sq2 sq2'
  have hc1 := both_in p q p' q' X
  rw [hM, hN, hr2, hr3] at hc1
  rw [Bool.true_and] at hc1
  have x1 : (r3 == r3) = true := by simp
  rw [hM, hN] at hm
  have HM := hide hM
  have HN := hide hN
  have HMN := hide hm
  have HC1 := hide hc1
  have sM1 := sM.m (show 2 ≤ 100 by decide)
  have sN1 := sN.m (show 2 ≤ 100 by decide)
  clear hM hN hm hc1 sM sN
  have x2 : (r9 != r9) = false := by simp
  have HR2 := hide hr2
  have HR3 := hide hr3
  have HR9 := hide hr9
  have HJ1 := hide hJ1
  have HJ2 := hide hJ2
  have HX := hide hX
  have HO := hide ho
  have HW1 := hide (show (decide (J1 ≤ p) && decide (q ≤ J2)) = true by rw [decide_eq_true j1, decide_eq_true j3]; rfl)
  have HW2 := hide (show (decide (J1 ≤ p') && decide (q' ≤ J2)) = true by rw [decide_eq_true j2, decide_eq_true j4]; rfl)
  have HP := hide (And.intro hpq (And.intro hpq' hJ))
  have sJ3 := sJ1.m (show 2 ≤ 100 by decide)
  have sJ4 := sJ2.m (show 2 ≤ 100 by decide)
  have sJ5 := sJ1.m (show 2 ≤ 9 by decide)
  have sJ6 := sJ2.m (show 2 ≤ 9 by decide)
  have sX1 := sX.m (show 9 ≤ 100 by decide)
  have k4 : 100 ≤ 4000 := by decide
  have ho1 := ho.1
  have ho2 := ho.2
  clear hr2 hr3 hr9 hJ1 hJ2 hX ho ha hb hpq hpq' j1 j2 j3 j4 hJ sJ1 sJ2 sX sp2 sq2 sp2' sq2'
  have hu_1 := hu.alloc (EV u v)
  have hv_1 := hv.alloc (EV u v)
  have hx_1 := hx.alloc (EV u v)
  have hy_1 := hy.alloc (EV u v)
  have ku_1 := ku.alloc (EV u v)
  have kv_1 := kv.alloc (EV u v)
  have kx_1 := kx.alloc (EV u v)
  have ky_1 := ky.alloc (EV u v)
  have ba_1 : Sv ((w).alloc (EV u v)) (w.heap.size) u v := by have h_ := Sv.new (w) u v; exact h_
  have F1 := (Below.refl w.heap.size w).alloc (Nat.le_refl _) (EV u v)
  have hu_2 := hu_1.alloc (EV x y)
  have hv_2 := hv_1.alloc (EV x y)
  have hx_2 := hx_1.alloc (EV x y)
  have hy_2 := hy_1.alloc (EV x y)
  have ku_2 := ku_1.alloc (EV x y)
  have kv_2 := kv_1.alloc (EV x y)
  have kx_2 := kx_1.alloc (EV x y)
  have ky_2 := ky_1.alloc (EV x y)
  have ba_2 := ba_1.alloc (EV x y)
  have bb_2 : Sv (((w).alloc (EV u v)).alloc (EV x y)) (w.heap.size + 1) x y := by have h_ := Sv.new ((w).alloc (EV u v)) x y; simp only [World.size_alloc] at h_; exact h_
  have F2 := F1.alloc F1.size (EV x y)
  go_enter Try.func7, Try.ntmps7
  have ba_u2 := ba_2.cell0
  have ba_v2 := ba_2.cell1
  have ba_w2 := ba_2.cell2
  have ba_x2 := ba_2.cell3
  have ba_y2 := ba_2.cell4
  have ba_z2 := ba_2.cell5
  have bb_u2 := bb_2.cell0
  have bb_v2 := bb_2.cell1
  have bb_w2 := bb_2.cell2
  have bb_x2 := bb_2.cell3
  have bb_y2 := bb_2.cell4
  have bb_z2 := bb_2.cell5
  go_wp2_with fail
  refine (awake6 _).mono ?_
  rintro e w3 ⟨rfl, b3⟩
  have hu_3 := hu_2.below b3
  have hv_3 := hv_2.below b3
  have hx_3 := hx_2.below b3
  have hy_3 := hy_2.below b3
  have ku_3 := ku_2.below b3
  have kv_3 := kv_2.below b3
  have kx_3 := kx_2.below b3
  have ky_3 := ky_2.below b3
  have ba_3 := ba_2.below b3 ba_2.lt
  have bb_3 := bb_2.below b3 bb_2.lt
  have F3 := below_then F2 (Nat.le_refl _) b3
  have ba_u3 := ba_3.cell0
  have ba_v3 := ba_3.cell1
  have ba_w3 := ba_3.cell2
  have ba_x3 := ba_3.cell3
  have ba_y3 := ba_3.cell4
  have ba_z3 := ba_3.cell5
  have bb_u3 := bb_3.cell0
  have bb_v3 := bb_3.cell1
  have bb_w3 := bb_3.cell2
  have bb_x3 := bb_3.cell3
  have bb_y3 := bb_3.cell4
  have bb_z3 := bb_3.cell5
  go_wp2_with fail
  refine (small_v _ _ xs ys xs' ys' true _ HA.out.2.2 hu_3 hv_3 HA.out.1 HA.out.2.1).mono ?_
  rintro e w4 ⟨rfl, b4⟩
  have hu_4 := hu_3.below b4
  have hv_4 := hv_3.below b4
  have hx_4 := hx_3.below b4
  have hy_4 := hy_3.below b4
  have ku_4 := ku_3.below b4
  have kv_4 := kv_3.below b4
  have kx_4 := kx_3.below b4
  have ky_4 := ky_3.below b4
  have ba_4 := ba_3.below b4 ba_3.lt
  have bb_4 := bb_3.below b4 bb_3.lt
  have F4 := below_then F3 (Nat.le_refl _) b4
  have ba_u4 := ba_4.cell0
  have ba_v4 := ba_4.cell1
  have ba_w4 := ba_4.cell2
  have ba_x4 := ba_4.cell3
  have ba_y4 := ba_4.cell4
  have ba_z4 := ba_4.cell5
  have bb_u4 := bb_4.cell0
  have bb_v4 := bb_4.cell1
  have bb_w4 := bb_4.cell2
  have bb_x4 := bb_4.cell3
  have bb_y4 := bb_4.cell4
  have bb_z4 := bb_4.cell5
  go_wp2_with fail
  refine (small_v _ _ zs ws zs' ws' true _ HB.out.2.2 hx_4 hy_4 HB.out.1 HB.out.2.1).mono ?_
  rintro e w5 ⟨rfl, b5⟩
  have hx_5 := hx_4.below b5
  have hy_5 := hy_4.below b5
  have ku_5 := ku_4.below b5
  have kv_5 := kv_4.below b5
  have kx_5 := kx_4.below b5
  have ky_5 := ky_4.below b5
  have ba_5 := ba_4.below b5 ba_4.lt
  have bb_5 := bb_4.below b5 bb_4.lt
  have F5 := below_then F4 (Nat.le_refl _) b5
  have ba_u5 := ba_5.cell0
  have ba_v5 := ba_5.cell1
  have ba_w5 := ba_5.cell2
  have ba_x5 := ba_5.cell3
  have ba_y5 := ba_5.cell4
  have ba_z5 := ba_5.cell5
  have bb_u5 := bb_5.cell0
  have bb_v5 := bb_5.cell1
  have bb_w5 := bb_5.cell2
  have bb_x5 := bb_5.cell3
  have bb_y5 := bb_5.cell4
  have bb_z5 := bb_5.cell5
  go_wp2_with fail
  refine (ijoin_e _ _ _ _ p q p' q' J1 J2 _ HJ1.out HJ2.out ku_5 kv_5 kx_5 ky_5 HP.out.1 HP.out.2.1 sp sq sp' sq').mono ?_
  rintro e w6 ⟨u6, v6, rfl, a1, a2, b6⟩
  have ku_6 := ku_5.below b6
  have kv_6 := kv_5.below b6
  have kx_6 := kx_5.below b6
  have ky_6 := ky_5.below b6
  have ba_6 := ba_5.below b6 ba_5.lt
  have bb_6 := bb_5.below b6 bb_5.lt
  have F6 := below_then F5 (Nat.le_refl _) b6
  have ba_u6 := ba_6.cell0
  have ba_v6 := ba_6.cell1
  have ba_w6 := ba_6.cell2
  have ba_x6 := ba_6.cell3
  have ba_y6 := ba_6.cell4
  have ba_z6 := ba_6.cell5
  have bb_u6 := bb_6.cell0
  have bb_v6 := bb_6.cell1
  have bb_w6 := bb_6.cell2
  have bb_x6 := bb_6.cell3
  have bb_y6 := bb_6.cell4
  have bb_z6 := bb_6.cell5
  have lt_bj_ba := ba_6.lt
  have lt_bj_bb := bb_6.lt
  have ku_7 := ku_6.alloc (EV u6 v6)
  have kv_7 := kv_6.alloc (EV u6 v6)
  have kx_7 := kx_6.alloc (EV u6 v6)
  have ky_7 := ky_6.alloc (EV u6 v6)
  have a1_7 := a1.alloc (EV u6 v6)
  have a2_7 := a2.alloc (EV u6 v6)
  have ba_7 := ba_6.alloc (EV u6 v6)
  have bb_7 := bb_6.alloc (EV u6 v6)
  have bj_7 : Sv ((w6).alloc (EV u6 v6)) (w6.heap.size) u6 v6 := by have h_ := Sv.new (w6) u6 v6; exact h_
  have F7 := F6.alloc F6.size (EV u6 v6)
  have ba_u7 := ba_7.cell0
  have ba_v7 := ba_7.cell1
  have ba_w7 := ba_7.cell2
  have ba_x7 := ba_7.cell3
  have ba_y7 := ba_7.cell4
  have ba_z7 := ba_7.cell5
  have bb_u7 := bb_7.cell0
  have bb_v7 := bb_7.cell1
  have bb_w7 := bb_7.cell2
  have bb_x7 := bb_7.cell3
  have bb_y7 := bb_7.cell4
  have bb_z7 := bb_7.cell5
  have bj_u7 := bj_7.cell0
  have bj_v7 := bj_7.cell1
  have bj_w7 := bj_7.cell2
  have bj_x7 := bj_7.cell3
  have bj_y7 := bj_7.cell4
  have bj_z7 := bj_7.cell5
  go_wp2_with fail
  refine (imeet_e _ _ _ _ p q p' q' M N _ HM.out HN.out ku_7 kv_7 kx_7 ky_7 HP.out.1 HP.out.2.1 sp sq sp' sq' HMN.out).mono ?_
  rintro e w8 ⟨u8, v8, rfl, m1, m2, b8⟩
  have ku_8 := ku_7.below b8
  have kv_8 := kv_7.below b8
  have kx_8 := kx_7.below b8
  have ky_8 := ky_7.below b8
  have a1_8 := a1_7.below b8
  have a2_8 := a2_7.below b8
  have ba_8 := ba_7.below b8 ba_7.lt
  have bb_8 := bb_7.below b8 bb_7.lt
  have bj_8 := bj_7.below b8 bj_7.lt
  have F8 := below_then F7 (Nat.le_refl _) b8
  have ba_u8 := ba_8.cell0
  have ba_v8 := ba_8.cell1
  have ba_w8 := ba_8.cell2
  have ba_x8 := ba_8.cell3
  have ba_y8 := ba_8.cell4
  have ba_z8 := ba_8.cell5
  have bb_u8 := bb_8.cell0
  have bb_v8 := bb_8.cell1
  have bb_w8 := bb_8.cell2
  have bb_x8 := bb_8.cell3
  have bb_y8 := bb_8.cell4
  have bb_z8 := bb_8.cell5
  have bj_u8 := bj_8.cell0
  have bj_v8 := bj_8.cell1
  have bj_w8 := bj_8.cell2
  have bj_x8 := bj_8.cell3
  have bj_y8 := bj_8.cell4
  have bj_z8 := bj_8.cell5
  have lt_bm_ba := ba_8.lt
  have lt_bm_bb := bb_8.lt
  have lt_bm_bj := bj_8.lt
  have ku_9 := ku_8.alloc (EV u8 v8)
  have kv_9 := kv_8.alloc (EV u8 v8)
  have kx_9 := kx_8.alloc (EV u8 v8)
  have ky_9 := ky_8.alloc (EV u8 v8)
  have a1_9 := a1_8.alloc (EV u8 v8)
  have a2_9 := a2_8.alloc (EV u8 v8)
  have m1_9 := m1.alloc (EV u8 v8)
  have m2_9 := m2.alloc (EV u8 v8)
  have ba_9 := ba_8.alloc (EV u8 v8)
  have bb_9 := bb_8.alloc (EV u8 v8)
  have bj_9 := bj_8.alloc (EV u8 v8)
  have bm_9 : Sv ((w8).alloc (EV u8 v8)) (w8.heap.size) u8 v8 := by have h_ := Sv.new (w8) u8 v8; exact h_
  have F9 := F8.alloc F8.size (EV u8 v8)
  have ba_u9 := ba_9.cell0
  have ba_v9 := ba_9.cell1
  have ba_w9 := ba_9.cell2
  have ba_x9 := ba_9.cell3
  have ba_y9 := ba_9.cell4
  have ba_z9 := ba_9.cell5
  have bb_u9 := bb_9.cell0
  have bb_v9 := bb_9.cell1
  have bb_w9 := bb_9.cell2
  have bb_x9 := bb_9.cell3
  have bb_y9 := bb_9.cell4
  have bb_z9 := bb_9.cell5
  have bj_u9 := bj_9.cell0
  have bj_v9 := bj_9.cell1
  have bj_w9 := bj_9.cell2
  have bj_x9 := bj_9.cell3
  have bj_y9 := bj_9.cell4
  have bj_z9 := bj_9.cell5
  have bm_u9 := bm_9.cell0
  have bm_v9 := bm_9.cell1
  have bm_w9 := bm_9.cell2
  have bm_x9 := bm_9.cell3
  have bm_y9 := bm_9.cell4
  have bm_z9 := bm_9.cell5
  go_wp2_with fail
  refine (rmeet_e _ _ _ _ p q p' q' M N _ HM.out HN.out ku_9.iu kv_9.iu kx_9.iu ky_9.iu la lc lx ly sp sq sp' sq' HMN.out).mono ?_
  rintro e w10 ⟨u10, v10, rfl, n1, n2, b10⟩
  have ku_10 := ku_9.below b10
  have kv_10 := kv_9.below b10
  have kx_10 := kx_9.below b10
  have ky_10 := ky_9.below b10
  have a1_10 := a1_9.below b10
  have a2_10 := a2_9.below b10
  have m1_10 := m1_9.below b10
  have m2_10 := m2_9.below b10
  have ba_10 := ba_9.below b10 ba_9.lt
  have bb_10 := bb_9.below b10 bb_9.lt
  have bj_10 := bj_9.below b10 bj_9.lt
  have bm_10 := bm_9.below b10 bm_9.lt
  have F10 := below_then F9 (Nat.le_refl _) b10
  have ba_u10 := ba_10.cell0
  have ba_v10 := ba_10.cell1
  have ba_w10 := ba_10.cell2
  have ba_x10 := ba_10.cell3
  have ba_y10 := ba_10.cell4
  have ba_z10 := ba_10.cell5
  have bb_u10 := bb_10.cell0
  have bb_v10 := bb_10.cell1
  have bb_w10 := bb_10.cell2
  have bb_x10 := bb_10.cell3
  have bb_y10 := bb_10.cell4
  have bb_z10 := bb_10.cell5
  have bj_u10 := bj_10.cell0
  have bj_v10 := bj_10.cell1
  have bj_w10 := bj_10.cell2
  have bj_x10 := bj_10.cell3
  have bj_y10 := bj_10.cell4
  have bj_z10 := bj_10.cell5
  have bm_u10 := bm_10.cell0
  have bm_v10 := bm_10.cell1
  have bm_w10 := bm_10.cell2
  have bm_x10 := bm_10.cell3
  have bm_y10 := bm_10.cell4
  have bm_z10 := bm_10.cell5
  have lt_bn_ba := ba_10.lt
  have lt_bn_bb := bb_10.lt
  have lt_bn_bj := bj_10.lt
  have lt_bn_bm := bm_10.lt
  have ku_11 := ku_10.alloc (EV u10 v10)
  have kv_11 := kv_10.alloc (EV u10 v10)
  have kx_11 := kx_10.alloc (EV u10 v10)
  have ky_11 := ky_10.alloc (EV u10 v10)
  have a1_11 := a1_10.alloc (EV u10 v10)
  have a2_11 := a2_10.alloc (EV u10 v10)
  have m1_11 := m1_10.alloc (EV u10 v10)
  have m2_11 := m2_10.alloc (EV u10 v10)
  have n1_11 := n1.alloc (EV u10 v10)
  have n2_11 := n2.alloc (EV u10 v10)
  have ba_11 := ba_10.alloc (EV u10 v10)
  have bb_11 := bb_10.alloc (EV u10 v10)
  have bj_11 := bj_10.alloc (EV u10 v10)
  have bm_11 := bm_10.alloc (EV u10 v10)
  have bn_11 : Sv ((w10).alloc (EV u10 v10)) (w10.heap.size) u10 v10 := by have h_ := Sv.new (w10) u10 v10; exact h_
  have F11 := F10.alloc F10.size (EV u10 v10)
  have ba_u11 := ba_11.cell0
  have ba_v11 := ba_11.cell1
  have ba_w11 := ba_11.cell2
  have ba_x11 := ba_11.cell3
  have ba_y11 := ba_11.cell4
  have ba_z11 := ba_11.cell5
  have bb_u11 := bb_11.cell0
  have bb_v11 := bb_11.cell1
  have bb_w11 := bb_11.cell2
  have bb_x11 := bb_11.cell3
  have bb_y11 := bb_11.cell4
  have bb_z11 := bb_11.cell5
  have bj_u11 := bj_11.cell0
  have bj_v11 := bj_11.cell1
  have bj_w11 := bj_11.cell2
  have bj_x11 := bj_11.cell3
  have bj_y11 := bj_11.cell4
  have bj_z11 := bj_11.cell5
  have bm_u11 := bm_11.cell0
  have bm_v11 := bm_11.cell1
  have bm_w11 := bm_11.cell2
  have bm_x11 := bm_11.cell3
  have bm_y11 := bm_11.cell4
  have bm_z11 := bm_11.cell5
  have bn_u11 := bn_11.cell0
  have bn_v11 := bn_11.cell1
  have bn_w11 := bn_11.cell2
  have bn_x11 := bn_11.cell3
  have bn_y11 := bn_11.cell4
  have bn_z11 := bn_11.cell5
  go_wp2_with fail
  have ku_12 := ku_11.drew
  have kv_12 := kv_11.drew
  have kx_12 := kx_11.drew
  have ky_12 := ky_11.drew
  have a1_12 := a1_11.drew
  have a2_12 := a2_11.drew
  have m1_12 := m1_11.drew
  have m2_12 := m2_11.drew
  have n1_12 := n1_11.drew
  have n2_12 := n2_11.drew
  have ba_12 := ba_11.drew
  have bb_12 := bb_11.drew
  have bj_12 := bj_11.drew
  have bm_12 := bm_11.drew
  have bn_12 := bn_11.drew
  have F12 := F11.drew
  go_region_held3 (fun w' => w'.cell? ⟨w.heap.size, 0, none⟩ = some (.bool u.s) ∧ w'.cell? ⟨w.heap.size, 1, none⟩ = some (.slice u.A u.n u.c) ∧ w'.cell? ⟨w.heap.size, 2, none⟩ = some (.slice u.B u.m u.d) ∧ w'.cell? ⟨w.heap.size, 3, none⟩ = some (.bool v.s) ∧ w'.cell? ⟨w.heap.size, 4, none⟩ = some (.slice v.A v.n v.c) ∧ w'.cell? ⟨w.heap.size, 5, none⟩ = some (.slice v.B v.m v.d) ∧ w'.cell? ⟨w.heap.size + 1, 0, none⟩ = some (.bool x.s) ∧ w'.cell? ⟨w.heap.size + 1, 1, none⟩ = some (.slice x.A x.n x.c) ∧ w'.cell? ⟨w.heap.size + 1, 2, none⟩ = some (.slice x.B x.m x.d) ∧ w'.cell? ⟨w.heap.size + 1, 3, none⟩ = some (.bool y.s) ∧ w'.cell? ⟨w.heap.size + 1, 4, none⟩ = some (.slice y.A y.n y.c) ∧ w'.cell? ⟨w.heap.size + 1, 5, none⟩ = some (.slice y.B y.m y.d) ∧ w'.cell? ⟨w6.heap.size, 0, none⟩ = some (.bool u6.s) ∧ w'.cell? ⟨w6.heap.size, 1, none⟩ = some (.slice u6.A u6.n u6.c) ∧ w'.cell? ⟨w6.heap.size, 2, none⟩ = some (.slice u6.B u6.m u6.d) ∧ w'.cell? ⟨w6.heap.size, 3, none⟩ = some (.bool v6.s) ∧ w'.cell? ⟨w6.heap.size, 4, none⟩ = some (.slice v6.A v6.n v6.c) ∧ w'.cell? ⟨w6.heap.size, 5, none⟩ = some (.slice v6.B v6.m v6.d) ∧ w'.cell? ⟨w8.heap.size, 0, none⟩ = some (.bool u8.s) ∧ w'.cell? ⟨w8.heap.size, 1, none⟩ = some (.slice u8.A u8.n u8.c) ∧ w'.cell? ⟨w8.heap.size, 2, none⟩ = some (.slice u8.B u8.m u8.d) ∧ w'.cell? ⟨w8.heap.size, 3, none⟩ = some (.bool v8.s) ∧ w'.cell? ⟨w8.heap.size, 4, none⟩ = some (.slice v8.A v8.n v8.c) ∧ w'.cell? ⟨w8.heap.size, 5, none⟩ = some (.slice v8.B v8.m v8.d) ∧ w'.cell? ⟨w10.heap.size, 0, none⟩ = some (.bool u10.s) ∧ w'.cell? ⟨w10.heap.size, 1, none⟩ = some (.slice u10.A u10.n u10.c) ∧ w'.cell? ⟨w10.heap.size, 2, none⟩ = some (.slice u10.B u10.m u10.d) ∧ w'.cell? ⟨w10.heap.size, 3, none⟩ = some (.bool v10.s) ∧ w'.cell? ⟨w10.heap.size, 4, none⟩ = some (.slice v10.A v10.n v10.c) ∧ w'.cell? ⟨w10.heap.size, 5, none⟩ = some (.slice v10.B v10.m v10.d))
    (first
      | with_reducible exact ⟨ba_19.cell0, ba_19.cell1, ba_19.cell2, ba_19.cell3, ba_19.cell4, ba_19.cell5, bb_19.cell0, bb_19.cell1, bb_19.cell2, bb_19.cell3, bb_19.cell4, bb_19.cell5, bj_19.cell0, bj_19.cell1, bj_19.cell2, bj_19.cell3, bj_19.cell4, bj_19.cell5, bm_19.cell0, bm_19.cell1, bm_19.cell2, bm_19.cell3, bm_19.cell4, bm_19.cell5, bn_19.cell0, bn_19.cell1, bn_19.cell2, bn_19.cell3, bn_19.cell4, bn_19.cell5⟩
      | with_reducible exact ⟨ba_18.cell0, ba_18.cell1, ba_18.cell2, ba_18.cell3, ba_18.cell4, ba_18.cell5, bb_18.cell0, bb_18.cell1, bb_18.cell2, bb_18.cell3, bb_18.cell4, bb_18.cell5, bj_18.cell0, bj_18.cell1, bj_18.cell2, bj_18.cell3, bj_18.cell4, bj_18.cell5, bm_18.cell0, bm_18.cell1, bm_18.cell2, bm_18.cell3, bm_18.cell4, bm_18.cell5, bn_18.cell0, bn_18.cell1, bn_18.cell2, bn_18.cell3, bn_18.cell4, bn_18.cell5⟩
      | with_reducible exact ⟨ba_17.cell0, ba_17.cell1, ba_17.cell2, ba_17.cell3, ba_17.cell4, ba_17.cell5, bb_17.cell0, bb_17.cell1, bb_17.cell2, bb_17.cell3, bb_17.cell4, bb_17.cell5, bj_17.cell0, bj_17.cell1, bj_17.cell2, bj_17.cell3, bj_17.cell4, bj_17.cell5, bm_17.cell0, bm_17.cell1, bm_17.cell2, bm_17.cell3, bm_17.cell4, bm_17.cell5, bn_17.cell0, bn_17.cell1, bn_17.cell2, bn_17.cell3, bn_17.cell4, bn_17.cell5⟩
      | with_reducible exact ⟨ba_16.cell0, ba_16.cell1, ba_16.cell2, ba_16.cell3, ba_16.cell4, ba_16.cell5, bb_16.cell0, bb_16.cell1, bb_16.cell2, bb_16.cell3, bb_16.cell4, bb_16.cell5, bj_16.cell0, bj_16.cell1, bj_16.cell2, bj_16.cell3, bj_16.cell4, bj_16.cell5, bm_16.cell0, bm_16.cell1, bm_16.cell2, bm_16.cell3, bm_16.cell4, bm_16.cell5, bn_16.cell0, bn_16.cell1, bn_16.cell2, bn_16.cell3, bn_16.cell4, bn_16.cell5⟩
      | with_reducible exact ⟨ba_15.cell0, ba_15.cell1, ba_15.cell2, ba_15.cell3, ba_15.cell4, ba_15.cell5, bb_15.cell0, bb_15.cell1, bb_15.cell2, bb_15.cell3, bb_15.cell4, bb_15.cell5, bj_15.cell0, bj_15.cell1, bj_15.cell2, bj_15.cell3, bj_15.cell4, bj_15.cell5, bm_15.cell0, bm_15.cell1, bm_15.cell2, bm_15.cell3, bm_15.cell4, bm_15.cell5, bn_15.cell0, bn_15.cell1, bn_15.cell2, bn_15.cell3, bn_15.cell4, bn_15.cell5⟩
      | with_reducible exact ⟨ba_14.cell0, ba_14.cell1, ba_14.cell2, ba_14.cell3, ba_14.cell4, ba_14.cell5, bb_14.cell0, bb_14.cell1, bb_14.cell2, bb_14.cell3, bb_14.cell4, bb_14.cell5, bj_14.cell0, bj_14.cell1, bj_14.cell2, bj_14.cell3, bj_14.cell4, bj_14.cell5, bm_14.cell0, bm_14.cell1, bm_14.cell2, bm_14.cell3, bm_14.cell4, bm_14.cell5, bn_14.cell0, bn_14.cell1, bn_14.cell2, bn_14.cell3, bn_14.cell4, bn_14.cell5⟩
      | with_reducible exact ⟨ba_13.cell0, ba_13.cell1, ba_13.cell2, ba_13.cell3, ba_13.cell4, ba_13.cell5, bb_13.cell0, bb_13.cell1, bb_13.cell2, bb_13.cell3, bb_13.cell4, bb_13.cell5, bj_13.cell0, bj_13.cell1, bj_13.cell2, bj_13.cell3, bj_13.cell4, bj_13.cell5, bm_13.cell0, bm_13.cell1, bm_13.cell2, bm_13.cell3, bm_13.cell4, bm_13.cell5, bn_13.cell0, bn_13.cell1, bn_13.cell2, bn_13.cell3, bn_13.cell4, bn_13.cell5⟩
      | with_reducible exact ⟨ba_12.cell0, ba_12.cell1, ba_12.cell2, ba_12.cell3, ba_12.cell4, ba_12.cell5, bb_12.cell0, bb_12.cell1, bb_12.cell2, bb_12.cell3, bb_12.cell4, bb_12.cell5, bj_12.cell0, bj_12.cell1, bj_12.cell2, bj_12.cell3, bj_12.cell4, bj_12.cell5, bm_12.cell0, bm_12.cell1, bm_12.cell2, bm_12.cell3, bm_12.cell4, bm_12.cell5, bn_12.cell0, bn_12.cell1, bn_12.cell2, bn_12.cell3, bn_12.cell4, bn_12.cell5⟩
      | fail)
    (first
      | (go_at_call 38; (with_reducible refine (rjoin_e _ _ _ _ p q p' q' J1 J2 _ HJ1.out HJ2.out ku_12.iu kv_12.iu kx_12.iu ky_12.iu la lc lx ly).mono ?_); rintro e w13 ⟨u13, v13, rfl, b1, b2, b13⟩; have ku_13 := ku_12.below b13; have kv_13 := kv_12.below b13; have kx_13 := kx_12.below b13; have ky_13 := ky_12.below b13; have a1_13 := a1_12.below b13; have a2_13 := a2_12.below b13; have m1_13 := m1_12.below b13; have m2_13 := m2_12.below b13; have n1_13 := n1_12.below b13; have n2_13 := n2_12.below b13; have ba_13 := ba_12.below b13 ba_12.lt; have bb_13 := bb_12.below b13 bb_12.lt; have bj_13 := bj_12.below b13 bj_12.lt; have bm_13 := bm_12.below b13 bm_12.lt; have bn_13 := bn_12.below b13 bn_12.lt; have F13 := below_then F12 (Nat.le_refl _) b13)
      | (go_at_call 13; (with_reducible refine (same_iv _ _ _ _ J1 J2 _ a1_13 a2_13 b1 b2 ((a1_13.len sJ3).mono k4) ((a2_13.len sJ4).mono k4)).mono ?_); rintro e w14 ⟨rfl, b14⟩; have ku_14 := ku_13.below b14; have kv_14 := kv_13.below b14; have kx_14 := kx_13.below b14; have ky_14 := ky_13.below b14; have a1_14 := a1_13.below b14; have a2_14 := a2_13.below b14; have m1_14 := m1_13.below b14; have m2_14 := m2_13.below b14; have n1_14 := n1_13.below b14; have n2_14 := n2_13.below b14; have b1_14 := b1.below b14; have b2_14 := b2.below b14; have ba_14 := ba_13.below b14 ba_13.lt; have bb_14 := bb_13.below b14 bb_13.lt; have bj_14 := bj_13.below b14 bj_13.lt; have bm_14 := bm_13.below b14 bm_13.lt; have bn_14 := bn_13.below b14 bn_13.lt; have F14 := below_then F13 (Nat.le_refl _) b14)
      | (go_at_call 13; (with_reducible refine (same_iv _ _ _ _ M N _ m1_14 m2_14 n1_14 n2_14 ((m1_14.len sM1).mono k4) ((m2_14.len sN1).mono k4)).mono ?_); rintro e w15 ⟨rfl, b15⟩; have ku_15 := ku_14.below b15; have kv_15 := kv_14.below b15; have kx_15 := kx_14.below b15; have ky_15 := ky_14.below b15; have a1_15 := a1_14.below b15; have a2_15 := a2_14.below b15; have m1_15 := m1_14.below b15; have m2_15 := m2_14.below b15; have n1_15 := n1_14.below b15; have n2_15 := n2_14.below b15; have b1_15 := b1_14.below b15; have b2_15 := b2_14.below b15; have ba_15 := ba_14.below b15 ba_14.lt; have bb_15 := bb_14.below b15 bb_14.lt; have bj_15 := bj_14.below b15 bj_14.lt; have bm_15 := bm_14.below b15 bm_14.lt; have bn_15 := bn_14.below b15 bn_14.lt; have F15 := below_then F14 (Nat.le_refl _) b15)
      | (go_at_call 39; (with_reducible refine (iwithin_iv _ _ _ _ p q p' q' r9 _ HR9.out ku_15 kv_15 kx_15 ky_15 HP.out.1 HP.out.2.1 sp sq sp' sq').mono ?_); rintro e w16 ⟨rfl, b16⟩; have ku_16 := ku_15.below b16; have kv_16 := kv_15.below b16; have kx_16 := kx_15.below b16; have ky_16 := ky_15.below b16; have a1_16 := a1_15.below b16; have a2_16 := a2_15.below b16; have m1_16 := m1_15.below b16; have m2_16 := m2_15.below b16; have n1_16 := n1_15.below b16; have n2_16 := n2_15.below b16; have b1_16 := b1_15.below b16; have b2_16 := b2_15.below b16; have ba_16 := ba_15.below b16 ba_15.lt; have bb_16 := bb_15.below b16 bb_15.lt; have bj_16 := bj_15.below b16 bj_15.lt; have bm_16 := bm_15.below b16 bm_15.lt; have bn_16 := bn_15.below b16 bn_15.lt; have F16 := below_then F15 (Nat.le_refl _) b16)
      | (go_at_call 40; (with_reducible refine (within_iv _ _ _ _ p q p' q' r9 _ HR9.out ku_16.iu kv_16.iu kx_16.iu ky_16.iu la lc lx ly).mono ?_); rintro e w17 ⟨rfl, b17⟩; have ku_17 := ku_16.below b17; have kv_17 := kv_16.below b17; have kx_17 := kx_16.below b17; have ky_17 := ky_16.below b17; have a1_17 := a1_16.below b17; have a2_17 := a2_16.below b17; have m1_17 := m1_16.below b17; have m2_17 := m2_16.below b17; have n1_17 := n1_16.below b17; have n2_17 := n2_16.below b17; have b1_17 := b1_16.below b17; have b2_17 := b2_16.below b17; have ba_17 := ba_16.below b17 ba_16.lt; have bb_17 := bb_16.below b17 bb_16.lt; have bj_17 := bj_16.below b17 bj_16.lt; have bm_17 := bm_16.below b17 bm_16.lt; have bn_17 := bn_16.below b17 bn_16.lt; have F17 := below_then F16 (Nat.le_refl _) b17)
      | (go_at_call 39; (with_reducible refine (iwithin_iv _ _ _ _ p q J1 J2 true _ HW1.out ku_17 kv_17 a1_17 a2_17 HP.out.1 HP.out.2.2 sp sq sJ3 sJ4).mono ?_); rintro e w18 ⟨rfl, b18⟩; have ku_18 := ku_17.below b18; have kv_18 := kv_17.below b18; have kx_18 := kx_17.below b18; have ky_18 := ky_17.below b18; have a1_18 := a1_17.below b18; have a2_18 := a2_17.below b18; have m1_18 := m1_17.below b18; have m2_18 := m2_17.below b18; have n1_18 := n1_17.below b18; have n2_18 := n2_17.below b18; have b1_18 := b1_17.below b18; have b2_18 := b2_17.below b18; have ba_18 := ba_17.below b18 ba_17.lt; have bb_18 := bb_17.below b18 bb_17.lt; have bj_18 := bj_17.below b18 bj_17.lt; have bm_18 := bm_17.below b18 bm_17.lt; have bn_18 := bn_17.below b18 bn_17.lt; have F18 := below_then F17 (Nat.le_refl _) b18)
      | (go_at_call 39; (with_reducible refine (iwithin_iv _ _ _ _ p' q' J1 J2 true _ HW2.out kx_18 ky_18 a1_18 a2_18 HP.out.2.1 HP.out.2.2 sp' sq' sJ3 sJ4).mono ?_); rintro e w19 ⟨rfl, b19⟩; have ku_19 := ku_18.below b19; have kv_19 := kv_18.below b19; have kx_19 := kx_18.below b19; have ky_19 := ky_18.below b19; have a1_19 := a1_18.below b19; have a2_19 := a2_18.below b19; have m1_19 := m1_18.below b19; have m2_19 := m2_18.below b19; have n1_19 := n1_18.below b19; have n2_19 := n2_18.below b19; have b1_19 := b1_18.below b19; have b2_19 := b2_18.below b19; have ba_19 := ba_18.below b19 ba_18.lt; have bb_19 := bb_18.below b19 bb_18.lt; have bj_19 := bj_18.below b19 bj_18.lt; have bm_19 := bm_18.below b19 bm_18.lt; have bn_19 := bn_18.below b19 bn_18.lt; have F19 := below_then F18 (Nat.le_refl _) b19)
      | fail)
  have ba_u19 := ba_19.cell0
  have ba_v19 := ba_19.cell1
  have ba_w19 := ba_19.cell2
  have ba_x19 := ba_19.cell3
  have ba_y19 := ba_19.cell4
  have ba_z19 := ba_19.cell5
  have bb_u19 := bb_19.cell0
  have bb_v19 := bb_19.cell1
  have bb_w19 := bb_19.cell2
  have bb_x19 := bb_19.cell3
  have bb_y19 := bb_19.cell4
  have bb_z19 := bb_19.cell5
  have bj_u19 := bj_19.cell0
  have bj_v19 := bj_19.cell1
  have bj_w19 := bj_19.cell2
  have bj_x19 := bj_19.cell3
  have bj_y19 := bj_19.cell4
  have bj_z19 := bj_19.cell5
  have bm_u19 := bm_19.cell0
  have bm_v19 := bm_19.cell1
  have bm_w19 := bm_19.cell2
  have bm_x19 := bm_19.cell3
  have bm_y19 := bm_19.cell4
  have bm_z19 := bm_19.cell5
  have bn_u19 := bn_19.cell0
  have bn_v19 := bn_19.cell1
  have bn_w19 := bn_19.cell2
  have bn_x19 := bn_19.cell3
  have bn_y19 := bn_19.cell4
  have bn_z19 := bn_19.cell5
  have ba_u19 := ba_19.cell0
  have ba_v19 := ba_19.cell1
  have ba_w19 := ba_19.cell2
  have ba_x19 := ba_19.cell3
  have ba_y19 := ba_19.cell4
  have ba_z19 := ba_19.cell5
  have bb_u19 := bb_19.cell0
  have bb_v19 := bb_19.cell1
  have bb_w19 := bb_19.cell2
  have bb_x19 := bb_19.cell3
  have bb_y19 := bb_19.cell4
  have bb_z19 := bb_19.cell5
  have bj_u19 := bj_19.cell0
  have bj_v19 := bj_19.cell1
  have bj_w19 := bj_19.cell2
  have bj_x19 := bj_19.cell3
  have bj_y19 := bj_19.cell4
  have bj_z19 := bj_19.cell5
  have bm_u19 := bm_19.cell0
  have bm_v19 := bm_19.cell1
  have bm_w19 := bm_19.cell2
  have bm_x19 := bm_19.cell3
  have bm_y19 := bm_19.cell4
  have bm_z19 := bm_19.cell5
  go_wp2_with fail
  refine (at_u _ _ J1 J2 X o _ HX.out HO.out a1_19 a2_19 sJ5 sJ6).mono ?_
  rintro e w20 ⟨u20, rfl, x1, b20⟩
  have ku_20 := ku_19.below b20
  have kv_20 := kv_19.below b20
  have kx_20 := kx_19.below b20
  have ky_20 := ky_19.below b20
  have a1_20 := a1_19.below b20
  have a2_20 := a2_19.below b20
  have m1_20 := m1_19.below b20
  have m2_20 := m2_19.below b20
  have ba_20 := ba_19.below b20 ba_19.lt
  have bb_20 := bb_19.below b20 bb_19.lt
  have bj_20 := bj_19.below b20 bj_19.lt
  have bm_20 := bm_19.below b20 bm_19.lt
  have F20 := below_then F19 (Nat.le_refl _) b20
  have ba_u20 := ba_20.cell0
  have ba_v20 := ba_20.cell1
  have ba_w20 := ba_20.cell2
  have ba_x20 := ba_20.cell3
  have ba_y20 := ba_20.cell4
  have ba_z20 := ba_20.cell5
  have bb_u20 := bb_20.cell0
  have bb_v20 := bb_20.cell1
  have bb_w20 := bb_20.cell2
  have bb_x20 := bb_20.cell3
  have bb_y20 := bb_20.cell4
  have bb_z20 := bb_20.cell5
  have bj_u20 := bj_20.cell0
  have bj_v20 := bj_20.cell1
  have bj_w20 := bj_20.cell2
  have bj_x20 := bj_20.cell3
  have bj_y20 := bj_20.cell4
  have bj_z20 := bj_20.cell5
  have bm_u20 := bm_20.cell0
  have bm_v20 := bm_20.cell1
  have bm_w20 := bm_20.cell2
  have bm_x20 := bm_20.cell3
  have bm_y20 := bm_20.cell4
  have bm_z20 := bm_20.cell5
  have lt_bp_ba := ba_20.lt
  have lt_bp_bb := bb_20.lt
  have lt_bp_bj := bj_20.lt
  have lt_bp_bm := bm_20.lt
  have ku_21 := ku_20.alloc (EU u20)
  have kv_21 := kv_20.alloc (EU u20)
  have kx_21 := kx_20.alloc (EU u20)
  have ky_21 := ky_20.alloc (EU u20)
  have a1_21 := a1_20.alloc (EU u20)
  have a2_21 := a2_20.alloc (EU u20)
  have m1_21 := m1_20.alloc (EU u20)
  have m2_21 := m2_20.alloc (EU u20)
  have x1_21 := x1.alloc (EU u20)
  have ba_21 := ba_20.alloc (EU u20)
  have bb_21 := bb_20.alloc (EU u20)
  have bj_21 := bj_20.alloc (EU u20)
  have bm_21 := bm_20.alloc (EU u20)
  have bp_21 : Su ((w20).alloc (EU u20)) (w20.heap.size) u20 := by have h_ := Su.new (w20) u20; exact h_
  have F21 := F20.alloc F20.size (EU u20)
  have ba_u21 := ba_21.cell0
  have ba_v21 := ba_21.cell1
  have ba_w21 := ba_21.cell2
  have ba_x21 := ba_21.cell3
  have ba_y21 := ba_21.cell4
  have ba_z21 := ba_21.cell5
  have bb_u21 := bb_21.cell0
  have bb_v21 := bb_21.cell1
  have bb_w21 := bb_21.cell2
  have bb_x21 := bb_21.cell3
  have bb_y21 := bb_21.cell4
  have bb_z21 := bb_21.cell5
  have bj_u21 := bj_21.cell0
  have bj_v21 := bj_21.cell1
  have bj_w21 := bj_21.cell2
  have bj_x21 := bj_21.cell3
  have bj_y21 := bj_21.cell4
  have bj_z21 := bj_21.cell5
  have bm_u21 := bm_21.cell0
  have bm_v21 := bm_21.cell1
  have bm_w21 := bm_21.cell2
  have bm_x21 := bm_21.cell3
  have bm_y21 := bm_21.cell4
  have bm_z21 := bm_21.cell5
  have bp_u21 := bp_21.cell0
  have bp_v21 := bp_21.cell1
  have bp_w21 := bp_21.cell2
  go_wp2_with fail
  have ku_22 := ku_21.drew
  have kv_22 := kv_21.drew
  have kx_22 := kx_21.drew
  have ky_22 := ky_21.drew
  have m1_22 := m1_21.drew
  have m2_22 := m2_21.drew
  have x1_22 := x1_21.drew
  have ba_22 := ba_21.drew
  have bb_22 := bb_21.drew
  have bm_22 := bm_21.drew
  have bp_22 := bp_21.drew
  have F22 := F21.drew
  go_region_held3 (fun w' => w'.cell? ⟨w.heap.size, 0, none⟩ = some (.bool u.s) ∧ w'.cell? ⟨w.heap.size, 1, none⟩ = some (.slice u.A u.n u.c) ∧ w'.cell? ⟨w.heap.size, 2, none⟩ = some (.slice u.B u.m u.d) ∧ w'.cell? ⟨w.heap.size, 3, none⟩ = some (.bool v.s) ∧ w'.cell? ⟨w.heap.size, 4, none⟩ = some (.slice v.A v.n v.c) ∧ w'.cell? ⟨w.heap.size, 5, none⟩ = some (.slice v.B v.m v.d) ∧ w'.cell? ⟨w.heap.size + 1, 0, none⟩ = some (.bool x.s) ∧ w'.cell? ⟨w.heap.size + 1, 1, none⟩ = some (.slice x.A x.n x.c) ∧ w'.cell? ⟨w.heap.size + 1, 2, none⟩ = some (.slice x.B x.m x.d) ∧ w'.cell? ⟨w.heap.size + 1, 3, none⟩ = some (.bool y.s) ∧ w'.cell? ⟨w.heap.size + 1, 4, none⟩ = some (.slice y.A y.n y.c) ∧ w'.cell? ⟨w.heap.size + 1, 5, none⟩ = some (.slice y.B y.m y.d) ∧ w'.cell? ⟨w8.heap.size, 0, none⟩ = some (.bool u8.s) ∧ w'.cell? ⟨w8.heap.size, 1, none⟩ = some (.slice u8.A u8.n u8.c) ∧ w'.cell? ⟨w8.heap.size, 2, none⟩ = some (.slice u8.B u8.m u8.d) ∧ w'.cell? ⟨w8.heap.size, 3, none⟩ = some (.bool v8.s) ∧ w'.cell? ⟨w8.heap.size, 4, none⟩ = some (.slice v8.A v8.n v8.c) ∧ w'.cell? ⟨w8.heap.size, 5, none⟩ = some (.slice v8.B v8.m v8.d) ∧ w'.cell? ⟨w20.heap.size, 0, none⟩ = some (.bool u20.s) ∧ w'.cell? ⟨w20.heap.size, 1, none⟩ = some (.slice u20.A u20.n u20.c) ∧ w'.cell? ⟨w20.heap.size, 2, none⟩ = some (.slice u20.B u20.m u20.d))
    (first
      | with_reducible exact ⟨ba_25.cell0, ba_25.cell1, ba_25.cell2, ba_25.cell3, ba_25.cell4, ba_25.cell5, bb_25.cell0, bb_25.cell1, bb_25.cell2, bb_25.cell3, bb_25.cell4, bb_25.cell5, bm_25.cell0, bm_25.cell1, bm_25.cell2, bm_25.cell3, bm_25.cell4, bm_25.cell5, bp_25.cell0, bp_25.cell1, bp_25.cell2⟩
      | with_reducible exact ⟨ba_24.cell0, ba_24.cell1, ba_24.cell2, ba_24.cell3, ba_24.cell4, ba_24.cell5, bb_24.cell0, bb_24.cell1, bb_24.cell2, bb_24.cell3, bb_24.cell4, bb_24.cell5, bm_24.cell0, bm_24.cell1, bm_24.cell2, bm_24.cell3, bm_24.cell4, bm_24.cell5, bp_24.cell0, bp_24.cell1, bp_24.cell2⟩
      | with_reducible exact ⟨ba_23.cell0, ba_23.cell1, ba_23.cell2, ba_23.cell3, ba_23.cell4, ba_23.cell5, bb_23.cell0, bb_23.cell1, bb_23.cell2, bb_23.cell3, bb_23.cell4, bb_23.cell5, bm_23.cell0, bm_23.cell1, bm_23.cell2, bm_23.cell3, bm_23.cell4, bm_23.cell5, bp_23.cell0, bp_23.cell1, bp_23.cell2⟩
      | with_reducible exact ⟨ba_22.cell0, ba_22.cell1, ba_22.cell2, ba_22.cell3, ba_22.cell4, ba_22.cell5, bb_22.cell0, bb_22.cell1, bb_22.cell2, bb_22.cell3, bb_22.cell4, bb_22.cell5, bm_22.cell0, bm_22.cell1, bm_22.cell2, bm_22.cell3, bm_22.cell4, bm_22.cell5, bp_22.cell0, bp_22.cell1, bp_22.cell2⟩
      | fail)
    (first
      | (go_at_call 16; (with_reducible refine (icont_iv _ _ _ M N X r3 _ HC1.out m1_22 m2_22 x1_22.iu (x1_22.len sX1) HMN.out sM1 sN1 sX1).mono ?_); rintro e w23 ⟨rfl, b23⟩; have ku_23 := ku_22.below b23; have kv_23 := kv_22.below b23; have kx_23 := kx_22.below b23; have ky_23 := ky_22.below b23; have m1_23 := m1_22.below b23; have m2_23 := m2_22.below b23; have x1_23 := x1_22.below b23; have ba_23 := ba_22.below b23 ba_22.lt; have bb_23 := bb_22.below b23 bb_22.lt; have bm_23 := bm_22.below b23 bm_22.lt; have bp_23 := bp_22.below b23 bp_22.lt; have F23 := below_then F22 (Nat.le_refl _) b23)
      | (go_at_call 16; (with_reducible refine (icont_iv _ _ _ p q X true _ HR2.out ku_23 kv_23 x1_23.iu (x1_23.len sX1) HP.out.1 sp sq sX1).mono ?_); rintro e w24 ⟨rfl, b24⟩; have ku_24 := ku_23.below b24; have kv_24 := kv_23.below b24; have kx_24 := kx_23.below b24; have ky_24 := ky_23.below b24; have m1_24 := m1_23.below b24; have m2_24 := m2_23.below b24; have x1_24 := x1_23.below b24; have ba_24 := ba_23.below b24 ba_23.lt; have bb_24 := bb_23.below b24 bb_23.lt; have bm_24 := bm_23.below b24 bm_23.lt; have bp_24 := bp_23.below b24 bp_23.lt; have F24 := below_then F23 (Nat.le_refl _) b24)
      | (go_at_call 16; (with_reducible refine (icont_iv _ _ _ p' q' X r3 _ HR3.out kx_24 ky_24 x1_24.iu (x1_24.len sX1) HP.out.2.1 sp' sq' sX1).mono ?_); rintro e w25 ⟨rfl, b25⟩; have ku_25 := ku_24.below b25; have kv_25 := kv_24.below b25; have kx_25 := kx_24.below b25; have ky_25 := ky_24.below b25; have m1_25 := m1_24.below b25; have m2_25 := m2_24.below b25; have x1_25 := x1_24.below b25; have ba_25 := ba_24.below b25 ba_24.lt; have bb_25 := bb_24.below b25 bb_24.lt; have bm_25 := bm_24.below b25 bm_24.lt; have bp_25 := bp_24.below b25 bp_24.lt; have F25 := below_then F24 (Nat.le_refl _) b25)
      | fail)
  have ba_u25 := ba_25.cell0
  have ba_v25 := ba_25.cell1
  have ba_w25 := ba_25.cell2
  have ba_x25 := ba_25.cell3
  have ba_y25 := ba_25.cell4
  have ba_z25 := ba_25.cell5
  have bb_u25 := bb_25.cell0
  have bb_v25 := bb_25.cell1
  have bb_w25 := bb_25.cell2
  have bb_x25 := bb_25.cell3
  have bb_y25 := bb_25.cell4
  have bb_z25 := bb_25.cell5
  have bm_u25 := bm_25.cell0
  have bm_v25 := bm_25.cell1
  have bm_w25 := bm_25.cell2
  have bm_x25 := bm_25.cell3
  have bm_y25 := bm_25.cell4
  have bm_z25 := bm_25.cell5
  have bp_u25 := bp_25.cell0
  have bp_v25 := bp_25.cell1
  have bp_w25 := bp_25.cell2
  go_wp2
  go_ret
  exact ⟨rfl, F25⟩
set_option maxRecDepth 50000 in
set_option maxHeartbeats 8000000 in
theorem jn_yf (u v x y : Rv) (xs ys xs' ys' zs ws zs' ws' : List Nat) (o : Int) (p q p' q' : Rat) (w : World) (ho : 0 ≤ o ∧ o < 256) (hu : Rx w u xs ys) (hv : Rx w v xs' ys') (hx : Rx w x zs ws) (hy : Rx w y zs' ws') (ha : (Lu 2 u ∧ Lu 2 v ∧ (isC u.s xs ys && isC v.s xs' ys' && decide (rv u.s xs ys ≤ rv v.s xs' ys')) = true)) (hb : (Lu 2 x ∧ Lu 2 y ∧ (isC x.s zs ws && isC y.s zs' ws' && decide (rv x.s zs ws ≤ rv y.s zs' ws')) = true)) (ku : Cu w u p) (kv : Cu w v q) (kx : Cu w x p') (ky : Cu w y q') (hpq : p ≤ q) (hpq' : p' ≤ q') (sp2 : Qs 2 p) (sq2 : Qs 2 q) (sp2' : Qs 2 p') (sq2' : Qs 2 q') (hm : max p p' ≤ min q q') (hc : (decide (p ≤ min p p' + ((o : Rat) / ((255 : Int) : Rat)) * (max q q' - min p p')) && decide (min p p' + ((o : Rat) / ((255 : Int) : Rat)) * (max q q' - min p p') ≤ q)) = false) : Calls Try.prog 7 #[.agg #[.bool u.s, .slice u.A u.n u.c, .slice u.B u.m u.d, .bool v.s, .slice v.A v.n v.c, .slice v.B v.m v.d], .agg #[.bool x.s, .slice x.A x.n x.c, .slice x.B x.m x.d, .bool y.s, .slice y.A y.n y.c, .slice y.B y.m y.d], .int .u8 o] w (fun e w' => e = .returned (.bool true) ∧ Below w.heap.size w w') := by
  have HA := hide ha
  have HB := hide hb
  have sp := sp2.m (show 2 ≤ 100 by decide)
  have sq := sq2.m (show 2 ≤ 100 by decide)
  have sp' := sp2'.m (show 2 ≤ 100 by decide)
  have sq' := sq2'.m (show 2 ≤ 100 by decide)
  have la := (ku.len sp2).mono (show 2 ≤ 4000 by decide)
  have lc := (kv.len sq2).mono (show 2 ≤ 4000 by decide)
  have lx := (kx.len sp2').mono (show 2 ≤ 4000 by decide)
  have ly := (ky.len sq2').mono (show 2 ≤ 4000 by decide)
  obtain ⟨J1, hJ1⟩ : ∃ z, min p p' = z := ⟨_, rfl⟩
  obtain ⟨J2, hJ2⟩ : ∃ z, max q q' = z := ⟨_, rfl⟩
  have sJ1 : Qs 2 J1 := by rw [← hJ1]; exact qs_min sp2 sp2'
  have sJ2 : Qs 2 J2 := by rw [← hJ2]; exact qs_max sq2 sq2'
  have j1 : J1 ≤ p := by rw [← hJ1]; exact mn_l _ _
  have j2 : J1 ≤ p' := by rw [← hJ1]; exact mn_r _ _
  have j3 : q ≤ J2 := by rw [← hJ2]; exact mx_l _ _
  have j4 : q' ≤ J2 := by rw [← hJ2]; exact mx_r _ _
  have hJ : J1 ≤ J2 := Rat.le_trans j1 (Rat.le_trans hpq j3)
  obtain ⟨X, hX⟩ : ∃ X, J1 + (((o : Int) : Rat) / ((255 : Int) : Rat)) * (J2 - J1) = X := ⟨_, rfl⟩
  have sX := at_size ho sJ1 sJ2 hX
  obtain ⟨r2, hr2⟩ : ∃ r, (decide (p ≤ X) && decide (X ≤ q)) = r := ⟨_, rfl⟩
  obtain ⟨r3, hr3⟩ : ∃ r, (decide (p' ≤ X) && decide (X ≤ q')) = r := ⟨_, rfl⟩
  obtain ⟨r9, hr9⟩ : ∃ r, (decide (p' ≤ p) && decide (q ≤ q')) = r := ⟨_, rfl⟩
  rw [hJ1, hJ2, hX, hr2] at hc
  subst hc
  obtain ⟨M, hM⟩ : ∃ z, max p p' = z := ⟨_, rfl⟩
  obtain ⟨N, hN⟩ : ∃ z, min q q' = z := ⟨_, rfl⟩
  have sM : Qs 2 M := by rw [← hM]; exact qs_max sp2 sp2'
  have sN : Qs 2 N := by rw [← hN]; exact qs_min sq2 sq2'
  have hc1 := both_in p q p' q' X
  rw [hM, hN, hr2, hr3] at hc1
  rw [Bool.false_and] at hc1
  rw [hM, hN] at hm
  have HM := hide hM
  have HN := hide hN
  have HMN := hide hm
  have HC1 := hide hc1
  have sM1 := sM.m (show 2 ≤ 100 by decide)
  have sN1 := sN.m (show 2 ≤ 100 by decide)
  clear hM hN hm hc1 sM sN
  have x2 : (r9 != r9) = false := by simp
  have HR2 := hide hr2
  have HR3 := hide hr3
  have HR9 := hide hr9
  have HJ1 := hide hJ1
  have HJ2 := hide hJ2
  have HX := hide hX
  have HO := hide ho
  have HW1 := hide (show (decide (J1 ≤ p) && decide (q ≤ J2)) = true by rw [decide_eq_true j1, decide_eq_true j3]; rfl)
  have HW2 := hide (show (decide (J1 ≤ p') && decide (q' ≤ J2)) = true by rw [decide_eq_true j2, decide_eq_true j4]; rfl)
  have HP := hide (And.intro hpq (And.intro hpq' hJ))
  have sJ3 := sJ1.m (show 2 ≤ 100 by decide)
  have sJ4 := sJ2.m (show 2 ≤ 100 by decide)
  have sJ5 := sJ1.m (show 2 ≤ 9 by decide)
  have sJ6 := sJ2.m (show 2 ≤ 9 by decide)
  have sX1 := sX.m (show 9 ≤ 100 by decide)
  have k4 : 100 ≤ 4000 := by decide
  have ho1 := ho.1
  have ho2 := ho.2
  clear hr2 hr3 hr9 hJ1 hJ2 hX ho ha hb hpq hpq' j1 j2 j3 j4 hJ sJ1 sJ2 sX sp2 sq2 sp2' sq2'
  have hu_1 := hu.alloc (EV u v)
  have hv_1 := hv.alloc (EV u v)
  have hx_1 := hx.alloc (EV u v)
  have hy_1 := hy.alloc (EV u v)
  have ku_1 := ku.alloc (EV u v)
  have kv_1 := kv.alloc (EV u v)
  have kx_1 := kx.alloc (EV u v)
  have ky_1 := ky.alloc (EV u v)
  have ba_1 : Sv ((w).alloc (EV u v)) (w.heap.size) u v := by have h_ := Sv.new (w) u v; exact h_
  have F1 := (Below.refl w.heap.size w).alloc (Nat.le_refl _) (EV u v)
  have hu_2 := hu_1.alloc (EV x y)
  have hv_2 := hv_1.alloc (EV x y)
  have hx_2 := hx_1.alloc (EV x y)
  have hy_2 := hy_1.alloc (EV x y)
  have ku_2 := ku_1.alloc (EV x y)
  have kv_2 := kv_1.alloc (EV x y)
  have kx_2 := kx_1.alloc (EV x y)
  have ky_2 := ky_1.alloc (EV x y)
  have ba_2 := ba_1.alloc (EV x y)
  have bb_2 : Sv (((w).alloc (EV u v)).alloc (EV x y)) (w.heap.size + 1) x y := by have h_ := Sv.new ((w).alloc (EV u v)) x y; simp only [World.size_alloc] at h_; exact h_
  have F2 := F1.alloc F1.size (EV x y)
  go_enter Try.func7, Try.ntmps7
  have ba_u2 := ba_2.cell0
  have ba_v2 := ba_2.cell1
  have ba_w2 := ba_2.cell2
  have ba_x2 := ba_2.cell3
  have ba_y2 := ba_2.cell4
  have ba_z2 := ba_2.cell5
  have bb_u2 := bb_2.cell0
  have bb_v2 := bb_2.cell1
  have bb_w2 := bb_2.cell2
  have bb_x2 := bb_2.cell3
  have bb_y2 := bb_2.cell4
  have bb_z2 := bb_2.cell5
  go_wp2_with fail
  refine (awake6 _).mono ?_
  rintro e w3 ⟨rfl, b3⟩
  have hu_3 := hu_2.below b3
  have hv_3 := hv_2.below b3
  have hx_3 := hx_2.below b3
  have hy_3 := hy_2.below b3
  have ku_3 := ku_2.below b3
  have kv_3 := kv_2.below b3
  have kx_3 := kx_2.below b3
  have ky_3 := ky_2.below b3
  have ba_3 := ba_2.below b3 ba_2.lt
  have bb_3 := bb_2.below b3 bb_2.lt
  have F3 := below_then F2 (Nat.le_refl _) b3
  have ba_u3 := ba_3.cell0
  have ba_v3 := ba_3.cell1
  have ba_w3 := ba_3.cell2
  have ba_x3 := ba_3.cell3
  have ba_y3 := ba_3.cell4
  have ba_z3 := ba_3.cell5
  have bb_u3 := bb_3.cell0
  have bb_v3 := bb_3.cell1
  have bb_w3 := bb_3.cell2
  have bb_x3 := bb_3.cell3
  have bb_y3 := bb_3.cell4
  have bb_z3 := bb_3.cell5
  go_wp2_with fail
  refine (small_v _ _ xs ys xs' ys' true _ HA.out.2.2 hu_3 hv_3 HA.out.1 HA.out.2.1).mono ?_
  rintro e w4 ⟨rfl, b4⟩
  have hu_4 := hu_3.below b4
  have hv_4 := hv_3.below b4
  have hx_4 := hx_3.below b4
  have hy_4 := hy_3.below b4
  have ku_4 := ku_3.below b4
  have kv_4 := kv_3.below b4
  have kx_4 := kx_3.below b4
  have ky_4 := ky_3.below b4
  have ba_4 := ba_3.below b4 ba_3.lt
  have bb_4 := bb_3.below b4 bb_3.lt
  have F4 := below_then F3 (Nat.le_refl _) b4
  have ba_u4 := ba_4.cell0
  have ba_v4 := ba_4.cell1
  have ba_w4 := ba_4.cell2
  have ba_x4 := ba_4.cell3
  have ba_y4 := ba_4.cell4
  have ba_z4 := ba_4.cell5
  have bb_u4 := bb_4.cell0
  have bb_v4 := bb_4.cell1
  have bb_w4 := bb_4.cell2
  have bb_x4 := bb_4.cell3
  have bb_y4 := bb_4.cell4
  have bb_z4 := bb_4.cell5
  go_wp2_with fail
  refine (small_v _ _ zs ws zs' ws' true _ HB.out.2.2 hx_4 hy_4 HB.out.1 HB.out.2.1).mono ?_
  rintro e w5 ⟨rfl, b5⟩
  have hx_5 := hx_4.below b5
  have hy_5 := hy_4.below b5
  have ku_5 := ku_4.below b5
  have kv_5 := kv_4.below b5
  have kx_5 := kx_4.below b5
  have ky_5 := ky_4.below b5
  have ba_5 := ba_4.below b5 ba_4.lt
  have bb_5 := bb_4.below b5 bb_4.lt
  have F5 := below_then F4 (Nat.le_refl _) b5
  have ba_u5 := ba_5.cell0
  have ba_v5 := ba_5.cell1
  have ba_w5 := ba_5.cell2
  have ba_x5 := ba_5.cell3
  have ba_y5 := ba_5.cell4
  have ba_z5 := ba_5.cell5
  have bb_u5 := bb_5.cell0
  have bb_v5 := bb_5.cell1
  have bb_w5 := bb_5.cell2
  have bb_x5 := bb_5.cell3
  have bb_y5 := bb_5.cell4
  have bb_z5 := bb_5.cell5
  go_wp2_with fail
  refine (ijoin_e _ _ _ _ p q p' q' J1 J2 _ HJ1.out HJ2.out ku_5 kv_5 kx_5 ky_5 HP.out.1 HP.out.2.1 sp sq sp' sq').mono ?_
  rintro e w6 ⟨u6, v6, rfl, a1, a2, b6⟩
  have ku_6 := ku_5.below b6
  have kv_6 := kv_5.below b6
  have kx_6 := kx_5.below b6
  have ky_6 := ky_5.below b6
  have ba_6 := ba_5.below b6 ba_5.lt
  have bb_6 := bb_5.below b6 bb_5.lt
  have F6 := below_then F5 (Nat.le_refl _) b6
  have ba_u6 := ba_6.cell0
  have ba_v6 := ba_6.cell1
  have ba_w6 := ba_6.cell2
  have ba_x6 := ba_6.cell3
  have ba_y6 := ba_6.cell4
  have ba_z6 := ba_6.cell5
  have bb_u6 := bb_6.cell0
  have bb_v6 := bb_6.cell1
  have bb_w6 := bb_6.cell2
  have bb_x6 := bb_6.cell3
  have bb_y6 := bb_6.cell4
  have bb_z6 := bb_6.cell5
  have lt_bj_ba := ba_6.lt
  have lt_bj_bb := bb_6.lt
  have ku_7 := ku_6.alloc (EV u6 v6)
  have kv_7 := kv_6.alloc (EV u6 v6)
  have kx_7 := kx_6.alloc (EV u6 v6)
  have ky_7 := ky_6.alloc (EV u6 v6)
  have a1_7 := a1.alloc (EV u6 v6)
  have a2_7 := a2.alloc (EV u6 v6)
  have ba_7 := ba_6.alloc (EV u6 v6)
  have bb_7 := bb_6.alloc (EV u6 v6)
  have bj_7 : Sv ((w6).alloc (EV u6 v6)) (w6.heap.size) u6 v6 := by have h_ := Sv.new (w6) u6 v6; exact h_
  have F7 := F6.alloc F6.size (EV u6 v6)
  have ba_u7 := ba_7.cell0
  have ba_v7 := ba_7.cell1
  have ba_w7 := ba_7.cell2
  have ba_x7 := ba_7.cell3
  have ba_y7 := ba_7.cell4
  have ba_z7 := ba_7.cell5
  have bb_u7 := bb_7.cell0
  have bb_v7 := bb_7.cell1
  have bb_w7 := bb_7.cell2
  have bb_x7 := bb_7.cell3
  have bb_y7 := bb_7.cell4
  have bb_z7 := bb_7.cell5
  have bj_u7 := bj_7.cell0
  have bj_v7 := bj_7.cell1
  have bj_w7 := bj_7.cell2
  have bj_x7 := bj_7.cell3
  have bj_y7 := bj_7.cell4
  have bj_z7 := bj_7.cell5
  go_wp2_with fail
  refine (imeet_e _ _ _ _ p q p' q' M N _ HM.out HN.out ku_7 kv_7 kx_7 ky_7 HP.out.1 HP.out.2.1 sp sq sp' sq' HMN.out).mono ?_
  rintro e w8 ⟨u8, v8, rfl, m1, m2, b8⟩
  have ku_8 := ku_7.below b8
  have kv_8 := kv_7.below b8
  have kx_8 := kx_7.below b8
  have ky_8 := ky_7.below b8
  have a1_8 := a1_7.below b8
  have a2_8 := a2_7.below b8
  have ba_8 := ba_7.below b8 ba_7.lt
  have bb_8 := bb_7.below b8 bb_7.lt
  have bj_8 := bj_7.below b8 bj_7.lt
  have F8 := below_then F7 (Nat.le_refl _) b8
  have ba_u8 := ba_8.cell0
  have ba_v8 := ba_8.cell1
  have ba_w8 := ba_8.cell2
  have ba_x8 := ba_8.cell3
  have ba_y8 := ba_8.cell4
  have ba_z8 := ba_8.cell5
  have bb_u8 := bb_8.cell0
  have bb_v8 := bb_8.cell1
  have bb_w8 := bb_8.cell2
  have bb_x8 := bb_8.cell3
  have bb_y8 := bb_8.cell4
  have bb_z8 := bb_8.cell5
  have bj_u8 := bj_8.cell0
  have bj_v8 := bj_8.cell1
  have bj_w8 := bj_8.cell2
  have bj_x8 := bj_8.cell3
  have bj_y8 := bj_8.cell4
  have bj_z8 := bj_8.cell5
  have lt_bm_ba := ba_8.lt
  have lt_bm_bb := bb_8.lt
  have lt_bm_bj := bj_8.lt
  have ku_9 := ku_8.alloc (EV u8 v8)
  have kv_9 := kv_8.alloc (EV u8 v8)
  have kx_9 := kx_8.alloc (EV u8 v8)
  have ky_9 := ky_8.alloc (EV u8 v8)
  have a1_9 := a1_8.alloc (EV u8 v8)
  have a2_9 := a2_8.alloc (EV u8 v8)
  have m1_9 := m1.alloc (EV u8 v8)
  have m2_9 := m2.alloc (EV u8 v8)
  have ba_9 := ba_8.alloc (EV u8 v8)
  have bb_9 := bb_8.alloc (EV u8 v8)
  have bj_9 := bj_8.alloc (EV u8 v8)
  have bm_9 : Sv ((w8).alloc (EV u8 v8)) (w8.heap.size) u8 v8 := by have h_ := Sv.new (w8) u8 v8; exact h_
  have F9 := F8.alloc F8.size (EV u8 v8)
  have ba_u9 := ba_9.cell0
  have ba_v9 := ba_9.cell1
  have ba_w9 := ba_9.cell2
  have ba_x9 := ba_9.cell3
  have ba_y9 := ba_9.cell4
  have ba_z9 := ba_9.cell5
  have bb_u9 := bb_9.cell0
  have bb_v9 := bb_9.cell1
  have bb_w9 := bb_9.cell2
  have bb_x9 := bb_9.cell3
  have bb_y9 := bb_9.cell4
  have bb_z9 := bb_9.cell5
  have bj_u9 := bj_9.cell0
  have bj_v9 := bj_9.cell1
  have bj_w9 := bj_9.cell2
  have bj_x9 := bj_9.cell3
  have bj_y9 := bj_9.cell4
  have bj_z9 := bj_9.cell5
  have bm_u9 := bm_9.cell0
  have bm_v9 := bm_9.cell1
  have bm_w9 := bm_9.cell2
  have bm_x9 := bm_9.cell3
  have bm_y9 := bm_9.cell4
  have bm_z9 := bm_9.cell5
  go_wp2_with fail
  refine (rmeet_e _ _ _ _ p q p' q' M N _ HM.out HN.out ku_9.iu kv_9.iu kx_9.iu ky_9.iu la lc lx ly sp sq sp' sq' HMN.out).mono ?_
  rintro e w10 ⟨u10, v10, rfl, n1, n2, b10⟩
  have ku_10 := ku_9.below b10
  have kv_10 := kv_9.below b10
  have kx_10 := kx_9.below b10
  have ky_10 := ky_9.below b10
  have a1_10 := a1_9.below b10
  have a2_10 := a2_9.below b10
  have m1_10 := m1_9.below b10
  have m2_10 := m2_9.below b10
  have ba_10 := ba_9.below b10 ba_9.lt
  have bb_10 := bb_9.below b10 bb_9.lt
  have bj_10 := bj_9.below b10 bj_9.lt
  have bm_10 := bm_9.below b10 bm_9.lt
  have F10 := below_then F9 (Nat.le_refl _) b10
  have ba_u10 := ba_10.cell0
  have ba_v10 := ba_10.cell1
  have ba_w10 := ba_10.cell2
  have ba_x10 := ba_10.cell3
  have ba_y10 := ba_10.cell4
  have ba_z10 := ba_10.cell5
  have bb_u10 := bb_10.cell0
  have bb_v10 := bb_10.cell1
  have bb_w10 := bb_10.cell2
  have bb_x10 := bb_10.cell3
  have bb_y10 := bb_10.cell4
  have bb_z10 := bb_10.cell5
  have bj_u10 := bj_10.cell0
  have bj_v10 := bj_10.cell1
  have bj_w10 := bj_10.cell2
  have bj_x10 := bj_10.cell3
  have bj_y10 := bj_10.cell4
  have bj_z10 := bj_10.cell5
  have bm_u10 := bm_10.cell0
  have bm_v10 := bm_10.cell1
  have bm_w10 := bm_10.cell2
  have bm_x10 := bm_10.cell3
  have bm_y10 := bm_10.cell4
  have bm_z10 := bm_10.cell5
  have lt_bn_ba := ba_10.lt
  have lt_bn_bb := bb_10.lt
  have lt_bn_bj := bj_10.lt
  have lt_bn_bm := bm_10.lt
  have ku_11 := ku_10.alloc (EV u10 v10)
  have kv_11 := kv_10.alloc (EV u10 v10)
  have kx_11 := kx_10.alloc (EV u10 v10)
  have ky_11 := ky_10.alloc (EV u10 v10)
  have a1_11 := a1_10.alloc (EV u10 v10)
  have a2_11 := a2_10.alloc (EV u10 v10)
  have m1_11 := m1_10.alloc (EV u10 v10)
  have m2_11 := m2_10.alloc (EV u10 v10)
  have n1_11 := n1.alloc (EV u10 v10)
  have n2_11 := n2.alloc (EV u10 v10)
  have ba_11 := ba_10.alloc (EV u10 v10)
  have bb_11 := bb_10.alloc (EV u10 v10)
  have bj_11 := bj_10.alloc (EV u10 v10)
  have bm_11 := bm_10.alloc (EV u10 v10)
  have bn_11 : Sv ((w10).alloc (EV u10 v10)) (w10.heap.size) u10 v10 := by have h_ := Sv.new (w10) u10 v10; exact h_
  have F11 := F10.alloc F10.size (EV u10 v10)
  have ba_u11 := ba_11.cell0
  have ba_v11 := ba_11.cell1
  have ba_w11 := ba_11.cell2
  have ba_x11 := ba_11.cell3
  have ba_y11 := ba_11.cell4
  have ba_z11 := ba_11.cell5
  have bb_u11 := bb_11.cell0
  have bb_v11 := bb_11.cell1
  have bb_w11 := bb_11.cell2
  have bb_x11 := bb_11.cell3
  have bb_y11 := bb_11.cell4
  have bb_z11 := bb_11.cell5
  have bj_u11 := bj_11.cell0
  have bj_v11 := bj_11.cell1
  have bj_w11 := bj_11.cell2
  have bj_x11 := bj_11.cell3
  have bj_y11 := bj_11.cell4
  have bj_z11 := bj_11.cell5
  have bm_u11 := bm_11.cell0
  have bm_v11 := bm_11.cell1
  have bm_w11 := bm_11.cell2
  have bm_x11 := bm_11.cell3
  have bm_y11 := bm_11.cell4
  have bm_z11 := bm_11.cell5
  have bn_u11 := bn_11.cell0
  have bn_v11 := bn_11.cell1
  have bn_w11 := bn_11.cell2
  have bn_x11 := bn_11.cell3
  have bn_y11 := bn_11.cell4
  have bn_z11 := bn_11.cell5
  go_wp2_with fail
  have ku_12 := ku_11.drew
  have kv_12 := kv_11.drew
  have kx_12 := kx_11.drew
  have ky_12 := ky_11.drew
  have a1_12 := a1_11.drew
  have a2_12 := a2_11.drew
  have m1_12 := m1_11.drew
  have m2_12 := m2_11.drew
  have n1_12 := n1_11.drew
  have n2_12 := n2_11.drew
  have ba_12 := ba_11.drew
  have bb_12 := bb_11.drew
  have bj_12 := bj_11.drew
  have bm_12 := bm_11.drew
  have bn_12 := bn_11.drew
  have F12 := F11.drew
  go_region_held3 (fun w' => w'.cell? ⟨w.heap.size, 0, none⟩ = some (.bool u.s) ∧ w'.cell? ⟨w.heap.size, 1, none⟩ = some (.slice u.A u.n u.c) ∧ w'.cell? ⟨w.heap.size, 2, none⟩ = some (.slice u.B u.m u.d) ∧ w'.cell? ⟨w.heap.size, 3, none⟩ = some (.bool v.s) ∧ w'.cell? ⟨w.heap.size, 4, none⟩ = some (.slice v.A v.n v.c) ∧ w'.cell? ⟨w.heap.size, 5, none⟩ = some (.slice v.B v.m v.d) ∧ w'.cell? ⟨w.heap.size + 1, 0, none⟩ = some (.bool x.s) ∧ w'.cell? ⟨w.heap.size + 1, 1, none⟩ = some (.slice x.A x.n x.c) ∧ w'.cell? ⟨w.heap.size + 1, 2, none⟩ = some (.slice x.B x.m x.d) ∧ w'.cell? ⟨w.heap.size + 1, 3, none⟩ = some (.bool y.s) ∧ w'.cell? ⟨w.heap.size + 1, 4, none⟩ = some (.slice y.A y.n y.c) ∧ w'.cell? ⟨w.heap.size + 1, 5, none⟩ = some (.slice y.B y.m y.d) ∧ w'.cell? ⟨w6.heap.size, 0, none⟩ = some (.bool u6.s) ∧ w'.cell? ⟨w6.heap.size, 1, none⟩ = some (.slice u6.A u6.n u6.c) ∧ w'.cell? ⟨w6.heap.size, 2, none⟩ = some (.slice u6.B u6.m u6.d) ∧ w'.cell? ⟨w6.heap.size, 3, none⟩ = some (.bool v6.s) ∧ w'.cell? ⟨w6.heap.size, 4, none⟩ = some (.slice v6.A v6.n v6.c) ∧ w'.cell? ⟨w6.heap.size, 5, none⟩ = some (.slice v6.B v6.m v6.d) ∧ w'.cell? ⟨w8.heap.size, 0, none⟩ = some (.bool u8.s) ∧ w'.cell? ⟨w8.heap.size, 1, none⟩ = some (.slice u8.A u8.n u8.c) ∧ w'.cell? ⟨w8.heap.size, 2, none⟩ = some (.slice u8.B u8.m u8.d) ∧ w'.cell? ⟨w8.heap.size, 3, none⟩ = some (.bool v8.s) ∧ w'.cell? ⟨w8.heap.size, 4, none⟩ = some (.slice v8.A v8.n v8.c) ∧ w'.cell? ⟨w8.heap.size, 5, none⟩ = some (.slice v8.B v8.m v8.d) ∧ w'.cell? ⟨w10.heap.size, 0, none⟩ = some (.bool u10.s) ∧ w'.cell? ⟨w10.heap.size, 1, none⟩ = some (.slice u10.A u10.n u10.c) ∧ w'.cell? ⟨w10.heap.size, 2, none⟩ = some (.slice u10.B u10.m u10.d) ∧ w'.cell? ⟨w10.heap.size, 3, none⟩ = some (.bool v10.s) ∧ w'.cell? ⟨w10.heap.size, 4, none⟩ = some (.slice v10.A v10.n v10.c) ∧ w'.cell? ⟨w10.heap.size, 5, none⟩ = some (.slice v10.B v10.m v10.d))
    (first
      | with_reducible exact ⟨ba_19.cell0, ba_19.cell1, ba_19.cell2, ba_19.cell3, ba_19.cell4, ba_19.cell5, bb_19.cell0, bb_19.cell1, bb_19.cell2, bb_19.cell3, bb_19.cell4, bb_19.cell5, bj_19.cell0, bj_19.cell1, bj_19.cell2, bj_19.cell3, bj_19.cell4, bj_19.cell5, bm_19.cell0, bm_19.cell1, bm_19.cell2, bm_19.cell3, bm_19.cell4, bm_19.cell5, bn_19.cell0, bn_19.cell1, bn_19.cell2, bn_19.cell3, bn_19.cell4, bn_19.cell5⟩
      | with_reducible exact ⟨ba_18.cell0, ba_18.cell1, ba_18.cell2, ba_18.cell3, ba_18.cell4, ba_18.cell5, bb_18.cell0, bb_18.cell1, bb_18.cell2, bb_18.cell3, bb_18.cell4, bb_18.cell5, bj_18.cell0, bj_18.cell1, bj_18.cell2, bj_18.cell3, bj_18.cell4, bj_18.cell5, bm_18.cell0, bm_18.cell1, bm_18.cell2, bm_18.cell3, bm_18.cell4, bm_18.cell5, bn_18.cell0, bn_18.cell1, bn_18.cell2, bn_18.cell3, bn_18.cell4, bn_18.cell5⟩
      | with_reducible exact ⟨ba_17.cell0, ba_17.cell1, ba_17.cell2, ba_17.cell3, ba_17.cell4, ba_17.cell5, bb_17.cell0, bb_17.cell1, bb_17.cell2, bb_17.cell3, bb_17.cell4, bb_17.cell5, bj_17.cell0, bj_17.cell1, bj_17.cell2, bj_17.cell3, bj_17.cell4, bj_17.cell5, bm_17.cell0, bm_17.cell1, bm_17.cell2, bm_17.cell3, bm_17.cell4, bm_17.cell5, bn_17.cell0, bn_17.cell1, bn_17.cell2, bn_17.cell3, bn_17.cell4, bn_17.cell5⟩
      | with_reducible exact ⟨ba_16.cell0, ba_16.cell1, ba_16.cell2, ba_16.cell3, ba_16.cell4, ba_16.cell5, bb_16.cell0, bb_16.cell1, bb_16.cell2, bb_16.cell3, bb_16.cell4, bb_16.cell5, bj_16.cell0, bj_16.cell1, bj_16.cell2, bj_16.cell3, bj_16.cell4, bj_16.cell5, bm_16.cell0, bm_16.cell1, bm_16.cell2, bm_16.cell3, bm_16.cell4, bm_16.cell5, bn_16.cell0, bn_16.cell1, bn_16.cell2, bn_16.cell3, bn_16.cell4, bn_16.cell5⟩
      | with_reducible exact ⟨ba_15.cell0, ba_15.cell1, ba_15.cell2, ba_15.cell3, ba_15.cell4, ba_15.cell5, bb_15.cell0, bb_15.cell1, bb_15.cell2, bb_15.cell3, bb_15.cell4, bb_15.cell5, bj_15.cell0, bj_15.cell1, bj_15.cell2, bj_15.cell3, bj_15.cell4, bj_15.cell5, bm_15.cell0, bm_15.cell1, bm_15.cell2, bm_15.cell3, bm_15.cell4, bm_15.cell5, bn_15.cell0, bn_15.cell1, bn_15.cell2, bn_15.cell3, bn_15.cell4, bn_15.cell5⟩
      | with_reducible exact ⟨ba_14.cell0, ba_14.cell1, ba_14.cell2, ba_14.cell3, ba_14.cell4, ba_14.cell5, bb_14.cell0, bb_14.cell1, bb_14.cell2, bb_14.cell3, bb_14.cell4, bb_14.cell5, bj_14.cell0, bj_14.cell1, bj_14.cell2, bj_14.cell3, bj_14.cell4, bj_14.cell5, bm_14.cell0, bm_14.cell1, bm_14.cell2, bm_14.cell3, bm_14.cell4, bm_14.cell5, bn_14.cell0, bn_14.cell1, bn_14.cell2, bn_14.cell3, bn_14.cell4, bn_14.cell5⟩
      | with_reducible exact ⟨ba_13.cell0, ba_13.cell1, ba_13.cell2, ba_13.cell3, ba_13.cell4, ba_13.cell5, bb_13.cell0, bb_13.cell1, bb_13.cell2, bb_13.cell3, bb_13.cell4, bb_13.cell5, bj_13.cell0, bj_13.cell1, bj_13.cell2, bj_13.cell3, bj_13.cell4, bj_13.cell5, bm_13.cell0, bm_13.cell1, bm_13.cell2, bm_13.cell3, bm_13.cell4, bm_13.cell5, bn_13.cell0, bn_13.cell1, bn_13.cell2, bn_13.cell3, bn_13.cell4, bn_13.cell5⟩
      | with_reducible exact ⟨ba_12.cell0, ba_12.cell1, ba_12.cell2, ba_12.cell3, ba_12.cell4, ba_12.cell5, bb_12.cell0, bb_12.cell1, bb_12.cell2, bb_12.cell3, bb_12.cell4, bb_12.cell5, bj_12.cell0, bj_12.cell1, bj_12.cell2, bj_12.cell3, bj_12.cell4, bj_12.cell5, bm_12.cell0, bm_12.cell1, bm_12.cell2, bm_12.cell3, bm_12.cell4, bm_12.cell5, bn_12.cell0, bn_12.cell1, bn_12.cell2, bn_12.cell3, bn_12.cell4, bn_12.cell5⟩
      | fail)
    (first
      | (go_at_call 38; (with_reducible refine (rjoin_e _ _ _ _ p q p' q' J1 J2 _ HJ1.out HJ2.out ku_12.iu kv_12.iu kx_12.iu ky_12.iu la lc lx ly).mono ?_); rintro e w13 ⟨u13, v13, rfl, b1, b2, b13⟩; have ku_13 := ku_12.below b13; have kv_13 := kv_12.below b13; have kx_13 := kx_12.below b13; have ky_13 := ky_12.below b13; have a1_13 := a1_12.below b13; have a2_13 := a2_12.below b13; have m1_13 := m1_12.below b13; have m2_13 := m2_12.below b13; have n1_13 := n1_12.below b13; have n2_13 := n2_12.below b13; have ba_13 := ba_12.below b13 ba_12.lt; have bb_13 := bb_12.below b13 bb_12.lt; have bj_13 := bj_12.below b13 bj_12.lt; have bm_13 := bm_12.below b13 bm_12.lt; have bn_13 := bn_12.below b13 bn_12.lt; have F13 := below_then F12 (Nat.le_refl _) b13)
      | (go_at_call 13; (with_reducible refine (same_iv _ _ _ _ J1 J2 _ a1_13 a2_13 b1 b2 ((a1_13.len sJ3).mono k4) ((a2_13.len sJ4).mono k4)).mono ?_); rintro e w14 ⟨rfl, b14⟩; have ku_14 := ku_13.below b14; have kv_14 := kv_13.below b14; have kx_14 := kx_13.below b14; have ky_14 := ky_13.below b14; have a1_14 := a1_13.below b14; have a2_14 := a2_13.below b14; have m1_14 := m1_13.below b14; have m2_14 := m2_13.below b14; have n1_14 := n1_13.below b14; have n2_14 := n2_13.below b14; have b1_14 := b1.below b14; have b2_14 := b2.below b14; have ba_14 := ba_13.below b14 ba_13.lt; have bb_14 := bb_13.below b14 bb_13.lt; have bj_14 := bj_13.below b14 bj_13.lt; have bm_14 := bm_13.below b14 bm_13.lt; have bn_14 := bn_13.below b14 bn_13.lt; have F14 := below_then F13 (Nat.le_refl _) b14)
      | (go_at_call 13; (with_reducible refine (same_iv _ _ _ _ M N _ m1_14 m2_14 n1_14 n2_14 ((m1_14.len sM1).mono k4) ((m2_14.len sN1).mono k4)).mono ?_); rintro e w15 ⟨rfl, b15⟩; have ku_15 := ku_14.below b15; have kv_15 := kv_14.below b15; have kx_15 := kx_14.below b15; have ky_15 := ky_14.below b15; have a1_15 := a1_14.below b15; have a2_15 := a2_14.below b15; have m1_15 := m1_14.below b15; have m2_15 := m2_14.below b15; have n1_15 := n1_14.below b15; have n2_15 := n2_14.below b15; have b1_15 := b1_14.below b15; have b2_15 := b2_14.below b15; have ba_15 := ba_14.below b15 ba_14.lt; have bb_15 := bb_14.below b15 bb_14.lt; have bj_15 := bj_14.below b15 bj_14.lt; have bm_15 := bm_14.below b15 bm_14.lt; have bn_15 := bn_14.below b15 bn_14.lt; have F15 := below_then F14 (Nat.le_refl _) b15)
      | (go_at_call 39; (with_reducible refine (iwithin_iv _ _ _ _ p q p' q' r9 _ HR9.out ku_15 kv_15 kx_15 ky_15 HP.out.1 HP.out.2.1 sp sq sp' sq').mono ?_); rintro e w16 ⟨rfl, b16⟩; have ku_16 := ku_15.below b16; have kv_16 := kv_15.below b16; have kx_16 := kx_15.below b16; have ky_16 := ky_15.below b16; have a1_16 := a1_15.below b16; have a2_16 := a2_15.below b16; have m1_16 := m1_15.below b16; have m2_16 := m2_15.below b16; have n1_16 := n1_15.below b16; have n2_16 := n2_15.below b16; have b1_16 := b1_15.below b16; have b2_16 := b2_15.below b16; have ba_16 := ba_15.below b16 ba_15.lt; have bb_16 := bb_15.below b16 bb_15.lt; have bj_16 := bj_15.below b16 bj_15.lt; have bm_16 := bm_15.below b16 bm_15.lt; have bn_16 := bn_15.below b16 bn_15.lt; have F16 := below_then F15 (Nat.le_refl _) b16)
      | (go_at_call 40; (with_reducible refine (within_iv _ _ _ _ p q p' q' r9 _ HR9.out ku_16.iu kv_16.iu kx_16.iu ky_16.iu la lc lx ly).mono ?_); rintro e w17 ⟨rfl, b17⟩; have ku_17 := ku_16.below b17; have kv_17 := kv_16.below b17; have kx_17 := kx_16.below b17; have ky_17 := ky_16.below b17; have a1_17 := a1_16.below b17; have a2_17 := a2_16.below b17; have m1_17 := m1_16.below b17; have m2_17 := m2_16.below b17; have n1_17 := n1_16.below b17; have n2_17 := n2_16.below b17; have b1_17 := b1_16.below b17; have b2_17 := b2_16.below b17; have ba_17 := ba_16.below b17 ba_16.lt; have bb_17 := bb_16.below b17 bb_16.lt; have bj_17 := bj_16.below b17 bj_16.lt; have bm_17 := bm_16.below b17 bm_16.lt; have bn_17 := bn_16.below b17 bn_16.lt; have F17 := below_then F16 (Nat.le_refl _) b17)
      | (go_at_call 39; (with_reducible refine (iwithin_iv _ _ _ _ p q J1 J2 true _ HW1.out ku_17 kv_17 a1_17 a2_17 HP.out.1 HP.out.2.2 sp sq sJ3 sJ4).mono ?_); rintro e w18 ⟨rfl, b18⟩; have ku_18 := ku_17.below b18; have kv_18 := kv_17.below b18; have kx_18 := kx_17.below b18; have ky_18 := ky_17.below b18; have a1_18 := a1_17.below b18; have a2_18 := a2_17.below b18; have m1_18 := m1_17.below b18; have m2_18 := m2_17.below b18; have n1_18 := n1_17.below b18; have n2_18 := n2_17.below b18; have b1_18 := b1_17.below b18; have b2_18 := b2_17.below b18; have ba_18 := ba_17.below b18 ba_17.lt; have bb_18 := bb_17.below b18 bb_17.lt; have bj_18 := bj_17.below b18 bj_17.lt; have bm_18 := bm_17.below b18 bm_17.lt; have bn_18 := bn_17.below b18 bn_17.lt; have F18 := below_then F17 (Nat.le_refl _) b18)
      | (go_at_call 39; (with_reducible refine (iwithin_iv _ _ _ _ p' q' J1 J2 true _ HW2.out kx_18 ky_18 a1_18 a2_18 HP.out.2.1 HP.out.2.2 sp' sq' sJ3 sJ4).mono ?_); rintro e w19 ⟨rfl, b19⟩; have ku_19 := ku_18.below b19; have kv_19 := kv_18.below b19; have kx_19 := kx_18.below b19; have ky_19 := ky_18.below b19; have a1_19 := a1_18.below b19; have a2_19 := a2_18.below b19; have m1_19 := m1_18.below b19; have m2_19 := m2_18.below b19; have n1_19 := n1_18.below b19; have n2_19 := n2_18.below b19; have b1_19 := b1_18.below b19; have b2_19 := b2_18.below b19; have ba_19 := ba_18.below b19 ba_18.lt; have bb_19 := bb_18.below b19 bb_18.lt; have bj_19 := bj_18.below b19 bj_18.lt; have bm_19 := bm_18.below b19 bm_18.lt; have bn_19 := bn_18.below b19 bn_18.lt; have F19 := below_then F18 (Nat.le_refl _) b19)
      | fail)
  have ba_u19 := ba_19.cell0
  have ba_v19 := ba_19.cell1
  have ba_w19 := ba_19.cell2
  have ba_x19 := ba_19.cell3
  have ba_y19 := ba_19.cell4
  have ba_z19 := ba_19.cell5
  have bb_u19 := bb_19.cell0
  have bb_v19 := bb_19.cell1
  have bb_w19 := bb_19.cell2
  have bb_x19 := bb_19.cell3
  have bb_y19 := bb_19.cell4
  have bb_z19 := bb_19.cell5
  have bj_u19 := bj_19.cell0
  have bj_v19 := bj_19.cell1
  have bj_w19 := bj_19.cell2
  have bj_x19 := bj_19.cell3
  have bj_y19 := bj_19.cell4
  have bj_z19 := bj_19.cell5
  have bm_u19 := bm_19.cell0
  have bm_v19 := bm_19.cell1
  have bm_w19 := bm_19.cell2
  have bm_x19 := bm_19.cell3
  have bm_y19 := bm_19.cell4
  have bm_z19 := bm_19.cell5
  have bn_u19 := bn_19.cell0
  have bn_v19 := bn_19.cell1
  have bn_w19 := bn_19.cell2
  have bn_x19 := bn_19.cell3
  have bn_y19 := bn_19.cell4
  have bn_z19 := bn_19.cell5
  have ba_u19 := ba_19.cell0
  have ba_v19 := ba_19.cell1
  have ba_w19 := ba_19.cell2
  have ba_x19 := ba_19.cell3
  have ba_y19 := ba_19.cell4
  have ba_z19 := ba_19.cell5
  have bb_u19 := bb_19.cell0
  have bb_v19 := bb_19.cell1
  have bb_w19 := bb_19.cell2
  have bb_x19 := bb_19.cell3
  have bb_y19 := bb_19.cell4
  have bb_z19 := bb_19.cell5
  have bj_u19 := bj_19.cell0
  have bj_v19 := bj_19.cell1
  have bj_w19 := bj_19.cell2
  have bj_x19 := bj_19.cell3
  have bj_y19 := bj_19.cell4
  have bj_z19 := bj_19.cell5
  have bm_u19 := bm_19.cell0
  have bm_v19 := bm_19.cell1
  have bm_w19 := bm_19.cell2
  have bm_x19 := bm_19.cell3
  have bm_y19 := bm_19.cell4
  have bm_z19 := bm_19.cell5
  go_wp2_with fail
  refine (at_u _ _ J1 J2 X o _ HX.out HO.out a1_19 a2_19 sJ5 sJ6).mono ?_
  rintro e w20 ⟨u20, rfl, x1, b20⟩
  have ku_20 := ku_19.below b20
  have kv_20 := kv_19.below b20
  have kx_20 := kx_19.below b20
  have ky_20 := ky_19.below b20
  have a1_20 := a1_19.below b20
  have a2_20 := a2_19.below b20
  have m1_20 := m1_19.below b20
  have m2_20 := m2_19.below b20
  have ba_20 := ba_19.below b20 ba_19.lt
  have bb_20 := bb_19.below b20 bb_19.lt
  have bj_20 := bj_19.below b20 bj_19.lt
  have bm_20 := bm_19.below b20 bm_19.lt
  have F20 := below_then F19 (Nat.le_refl _) b20
  have ba_u20 := ba_20.cell0
  have ba_v20 := ba_20.cell1
  have ba_w20 := ba_20.cell2
  have ba_x20 := ba_20.cell3
  have ba_y20 := ba_20.cell4
  have ba_z20 := ba_20.cell5
  have bb_u20 := bb_20.cell0
  have bb_v20 := bb_20.cell1
  have bb_w20 := bb_20.cell2
  have bb_x20 := bb_20.cell3
  have bb_y20 := bb_20.cell4
  have bb_z20 := bb_20.cell5
  have bj_u20 := bj_20.cell0
  have bj_v20 := bj_20.cell1
  have bj_w20 := bj_20.cell2
  have bj_x20 := bj_20.cell3
  have bj_y20 := bj_20.cell4
  have bj_z20 := bj_20.cell5
  have bm_u20 := bm_20.cell0
  have bm_v20 := bm_20.cell1
  have bm_w20 := bm_20.cell2
  have bm_x20 := bm_20.cell3
  have bm_y20 := bm_20.cell4
  have bm_z20 := bm_20.cell5
  have lt_bp_ba := ba_20.lt
  have lt_bp_bb := bb_20.lt
  have lt_bp_bj := bj_20.lt
  have lt_bp_bm := bm_20.lt
  have ku_21 := ku_20.alloc (EU u20)
  have kv_21 := kv_20.alloc (EU u20)
  have kx_21 := kx_20.alloc (EU u20)
  have ky_21 := ky_20.alloc (EU u20)
  have a1_21 := a1_20.alloc (EU u20)
  have a2_21 := a2_20.alloc (EU u20)
  have m1_21 := m1_20.alloc (EU u20)
  have m2_21 := m2_20.alloc (EU u20)
  have x1_21 := x1.alloc (EU u20)
  have ba_21 := ba_20.alloc (EU u20)
  have bb_21 := bb_20.alloc (EU u20)
  have bj_21 := bj_20.alloc (EU u20)
  have bm_21 := bm_20.alloc (EU u20)
  have bp_21 : Su ((w20).alloc (EU u20)) (w20.heap.size) u20 := by have h_ := Su.new (w20) u20; exact h_
  have F21 := F20.alloc F20.size (EU u20)
  have ba_u21 := ba_21.cell0
  have ba_v21 := ba_21.cell1
  have ba_w21 := ba_21.cell2
  have ba_x21 := ba_21.cell3
  have ba_y21 := ba_21.cell4
  have ba_z21 := ba_21.cell5
  have bb_u21 := bb_21.cell0
  have bb_v21 := bb_21.cell1
  have bb_w21 := bb_21.cell2
  have bb_x21 := bb_21.cell3
  have bb_y21 := bb_21.cell4
  have bb_z21 := bb_21.cell5
  have bj_u21 := bj_21.cell0
  have bj_v21 := bj_21.cell1
  have bj_w21 := bj_21.cell2
  have bj_x21 := bj_21.cell3
  have bj_y21 := bj_21.cell4
  have bj_z21 := bj_21.cell5
  have bm_u21 := bm_21.cell0
  have bm_v21 := bm_21.cell1
  have bm_w21 := bm_21.cell2
  have bm_x21 := bm_21.cell3
  have bm_y21 := bm_21.cell4
  have bm_z21 := bm_21.cell5
  have bp_u21 := bp_21.cell0
  have bp_v21 := bp_21.cell1
  have bp_w21 := bp_21.cell2
  go_wp2_with fail
  have ku_22 := ku_21.drew
  have kv_22 := kv_21.drew
  have kx_22 := kx_21.drew
  have ky_22 := ky_21.drew
  have m1_22 := m1_21.drew
  have m2_22 := m2_21.drew
  have x1_22 := x1_21.drew
  have ba_22 := ba_21.drew
  have bb_22 := bb_21.drew
  have bm_22 := bm_21.drew
  have bp_22 := bp_21.drew
  have F22 := F21.drew
  refine wp_region_held_drew (S := fun w' => w'.cell? ⟨w.heap.size, 0, none⟩ = some (.bool u.s) ∧ w'.cell? ⟨w.heap.size, 1, none⟩ = some (.slice u.A u.n u.c) ∧ w'.cell? ⟨w.heap.size, 2, none⟩ = some (.slice u.B u.m u.d) ∧ w'.cell? ⟨w.heap.size, 3, none⟩ = some (.bool v.s) ∧ w'.cell? ⟨w.heap.size, 4, none⟩ = some (.slice v.A v.n v.c) ∧ w'.cell? ⟨w.heap.size, 5, none⟩ = some (.slice v.B v.m v.d) ∧ w'.cell? ⟨w.heap.size + 1, 0, none⟩ = some (.bool x.s) ∧ w'.cell? ⟨w.heap.size + 1, 1, none⟩ = some (.slice x.A x.n x.c) ∧ w'.cell? ⟨w.heap.size + 1, 2, none⟩ = some (.slice x.B x.m x.d) ∧ w'.cell? ⟨w.heap.size + 1, 3, none⟩ = some (.bool y.s) ∧ w'.cell? ⟨w.heap.size + 1, 4, none⟩ = some (.slice y.A y.n y.c) ∧ w'.cell? ⟨w.heap.size + 1, 5, none⟩ = some (.slice y.B y.m y.d) ∧ w'.cell? ⟨w8.heap.size, 0, none⟩ = some (.bool u8.s) ∧ w'.cell? ⟨w8.heap.size, 1, none⟩ = some (.slice u8.A u8.n u8.c) ∧ w'.cell? ⟨w8.heap.size, 2, none⟩ = some (.slice u8.B u8.m u8.d) ∧ w'.cell? ⟨w8.heap.size, 3, none⟩ = some (.bool v8.s) ∧ w'.cell? ⟨w8.heap.size, 4, none⟩ = some (.slice v8.A v8.n v8.c) ∧ w'.cell? ⟨w8.heap.size, 5, none⟩ = some (.slice v8.B v8.m v8.d) ∧ w'.cell? ⟨w20.heap.size, 0, none⟩ = some (.bool u20.s) ∧ w'.cell? ⟨w20.heap.size, 1, none⟩ = some (.slice u20.A u20.n u20.c) ∧ w'.cell? ⟨w20.heap.size, 2, none⟩ = some (.slice u20.B u20.m u20.d)) (by kernel_rfl) ?_ (fun hHeld => ?_)
  · (try dsimp only); exact ⟨ba_22.cell0, ba_22.cell1, ba_22.cell2, ba_22.cell3, ba_22.cell4, ba_22.cell5, bb_22.cell0, bb_22.cell1, bb_22.cell2, bb_22.cell3, bb_22.cell4, bb_22.cell5, bm_22.cell0, bm_22.cell1, bm_22.cell2, bm_22.cell3, bm_22.cell4, bm_22.cell5, bp_22.cell0, bp_22.cell1, bp_22.cell2⟩
  refine wpAnyH_take (i := 0) (v := ?_) rfl (by kernel_rfl) (by kernel_rfl) (by kernel_rfl) (fun _ _ _ h => h) (Or.inl ⟨by rfl, ?_⟩) (by assumption) ?_
  rotate_left 1
  · (intro w9 hSw; (try dsimp only at hSw); go_simp; try with_reducible rfl)
  try simp only [Act.put, List.getElem_toArray, List.getElem_cons_succ, List.getElem_cons_zero, List.setIfInBounds_toArray, List.set_cons_zero, List.set_cons_succ]
  refine wpAnyH_take (i := 1) (v := ?_) rfl (by kernel_rfl) (by kernel_rfl) (by kernel_rfl) (fun _ _ _ h => h) (Or.inl ⟨by rfl, ?_⟩) (by assumption) ?_
  rotate_left 1
  · (intro w9 hSw; (try dsimp only at hSw); go_simp; try with_reducible rfl)
  try simp only [Act.put, List.getElem_toArray, List.getElem_cons_succ, List.getElem_cons_zero, List.setIfInBounds_toArray, List.set_cons_zero, List.set_cons_succ]
  refine wpAnyH_take (i := 2) (v := ?_) rfl (by kernel_rfl) (by kernel_rfl) (by kernel_rfl) (fun _ _ _ h => h) (Or.inl ⟨by rfl, ?_⟩) (by assumption) ?_
  rotate_left 1
  · (intro w9 hSw; (try dsimp only at hSw); go_simp; try with_reducible rfl)
  try simp only [Act.put, List.getElem_toArray, List.getElem_cons_succ, List.getElem_cons_zero, List.setIfInBounds_toArray, List.set_cons_zero, List.set_cons_succ]
  refine wpAnyH_take (i := 3) (v := ?_) rfl (by kernel_rfl) (by kernel_rfl) (by kernel_rfl) (fun _ _ _ h => h) (Or.inl ⟨by rfl, ?_⟩) (by assumption) ?_
  rotate_left 1
  · (intro w9 hSw; (try dsimp only at hSw); go_simp; try with_reducible rfl)
  try simp only [Act.put, List.getElem_toArray, List.getElem_cons_succ, List.getElem_cons_zero, List.setIfInBounds_toArray, List.set_cons_zero, List.set_cons_succ]
  refine wpAnyH_take (i := 4) (v := ?_) rfl (by kernel_rfl) (by kernel_rfl) (by kernel_rfl) (fun _ _ _ h => h) (Or.inl ⟨by rfl, ?_⟩) (by assumption) ?_
  rotate_left 1
  · (intro w9 hSw; (try dsimp only at hSw); go_simp; try with_reducible rfl)
  try simp only [Act.put, List.getElem_toArray, List.getElem_cons_succ, List.getElem_cons_zero, List.setIfInBounds_toArray, List.set_cons_zero, List.set_cons_succ]
  refine wpAnyH_take (i := 7) (v := ?_) rfl (by kernel_rfl) (by kernel_rfl) (by kernel_rfl) (fun _ _ _ h => h) (Or.inl ⟨by rfl, ?_⟩) (by assumption) ?_
  rotate_left 1
  · (intro w9 hSw; (try dsimp only at hSw); go_simp; try with_reducible rfl)
  try simp only [Act.put, List.getElem_toArray, List.getElem_cons_succ, List.getElem_cons_zero, List.setIfInBounds_toArray, List.set_cons_zero, List.set_cons_succ]
  refine wpAnyH_take (i := 8) (v := ?_) rfl (by kernel_rfl) (by kernel_rfl) (by kernel_rfl) (fun _ _ _ h => h) (Or.inl ⟨by rfl, ?_⟩) (by assumption) ?_
  rotate_left 1
  · (intro w9 hSw; (try dsimp only at hSw); go_simp; try with_reducible rfl)
  try simp only [Act.put, List.getElem_toArray, List.getElem_cons_succ, List.getElem_cons_zero, List.setIfInBounds_toArray, List.set_cons_zero, List.set_cons_succ]
  refine wpAnyH_ready (rs := [5]) (by kernel_rfl) (by simp) ?_
  refine AllReadyH.cons rfl (fun K hK => ?_) AllReadyH.nil
  go_simp
  go_at_call 16
  with_reducible refine (icont_iv _ _ _ M N X false _ HC1.out m1_22 m2_22 x1_22.iu (x1_22.len sX1) HMN.out sM1 sN1 sX1).mono ?_
  rintro e w23 ⟨rfl, b23⟩
  have ku_23 := ku_22.below b23
  have kv_23 := kv_22.below b23
  have kx_23 := kx_22.below b23
  have ky_23 := ky_22.below b23
  have m1_23 := m1_22.below b23
  have m2_23 := m2_22.below b23
  have x1_23 := x1_22.below b23
  have ba_23 := ba_22.below b23 ba_22.lt
  have bb_23 := bb_22.below b23 bb_22.lt
  have bm_23 := bm_22.below b23 bm_22.lt
  have bp_23 := bp_22.below b23 bp_22.lt
  have F23 := below_then F22 (Nat.le_refl _) b23
  try dsimp only
  refine hK.out _ _ ?_ (fun hHeld => ?_)
  · (try dsimp only); exact ⟨ba_23.cell0, ba_23.cell1, ba_23.cell2, ba_23.cell3, ba_23.cell4, ba_23.cell5, bb_23.cell0, bb_23.cell1, bb_23.cell2, bb_23.cell3, bb_23.cell4, bb_23.cell5, bm_23.cell0, bm_23.cell1, bm_23.cell2, bm_23.cell3, bm_23.cell4, bm_23.cell5, bp_23.cell0, bp_23.cell1, bp_23.cell2⟩
  clear hK K
  try simp only [Act.put, List.getElem_toArray, List.getElem_cons_succ, List.getElem_cons_zero, List.setIfInBounds_toArray, List.set_cons_zero, List.set_cons_succ]
  refine wpAnyH_take (i := 6) (v := ?_) rfl (by kernel_rfl) (by kernel_rfl) (by kernel_rfl) (fun _ _ _ h => h) (Or.inl ⟨by rfl, ?_⟩) (by assumption) ?_
  rotate_left 1
  · (intro w9 hSw; (try dsimp only at hSw); go_simp; try with_reducible rfl)
  try simp only [Act.put, List.getElem_toArray, List.getElem_cons_succ, List.getElem_cons_zero, List.setIfInBounds_toArray, List.set_cons_zero, List.set_cons_succ]
  refine wpAnyH_ready (rs := [9]) (by kernel_rfl) (by simp) ?_
  refine AllReadyH.cons rfl (fun K hK => ?_) AllReadyH.nil
  go_simp
  go_at_call 16
  with_reducible refine (icont_iv _ _ _ p q X false _ HR2.out ku_23 kv_23 x1_23.iu (x1_23.len sX1) HP.out.1 sp sq sX1).mono ?_
  rintro e w24 ⟨rfl, b24⟩
  have ku_24 := ku_23.below b24
  have kv_24 := kv_23.below b24
  have kx_24 := kx_23.below b24
  have ky_24 := ky_23.below b24
  have m1_24 := m1_23.below b24
  have m2_24 := m2_23.below b24
  have x1_24 := x1_23.below b24
  have ba_24 := ba_23.below b24 ba_23.lt
  have bb_24 := bb_23.below b24 bb_23.lt
  have bm_24 := bm_23.below b24 bm_23.lt
  have bp_24 := bp_23.below b24 bp_23.lt
  have F24 := below_then F23 (Nat.le_refl _) b24
  try dsimp only
  refine hK.out _ _ ?_ (fun hHeld => ?_)
  · (try dsimp only); exact ⟨ba_24.cell0, ba_24.cell1, ba_24.cell2, ba_24.cell3, ba_24.cell4, ba_24.cell5, bb_24.cell0, bb_24.cell1, bb_24.cell2, bb_24.cell3, bb_24.cell4, bb_24.cell5, bm_24.cell0, bm_24.cell1, bm_24.cell2, bm_24.cell3, bm_24.cell4, bm_24.cell5, bp_24.cell0, bp_24.cell1, bp_24.cell2⟩
  clear hK K
  try simp only [Act.put, List.getElem_toArray, List.getElem_cons_succ, List.getElem_cons_zero, List.setIfInBounds_toArray, List.set_cons_zero, List.set_cons_succ]
  refine wpAnyH_take (i := 10) (v := ?_) rfl (by kernel_rfl) (by kernel_rfl) (by kernel_rfl) (fun _ _ _ h => h) (Or.inl ⟨by rfl, ?_⟩) (by assumption) ?_
  rotate_left 1
  · (intro w9 hSw; (try dsimp only at hSw); go_simp; try with_reducible rfl)
  try simp only [Act.put, List.getElem_toArray, List.getElem_cons_succ, List.getElem_cons_zero, List.setIfInBounds_toArray, List.set_cons_zero, List.set_cons_succ]
  refine wpAnyH_take (i := 11) (v := undef) rfl (by kernel_rfl) (by kernel_rfl) (by kernel_rfl) (fun _ _ _ h => h) (Or.inr ⟨by rfl, rfl⟩) (by assumption) ?_
  try simp only [Act.put, List.getElem_toArray, List.getElem_cons_succ, List.getElem_cons_zero, List.setIfInBounds_toArray, List.set_cons_zero, List.set_cons_succ]
  refine wpAnyH_take (i := 12) (v := undef) rfl (by kernel_rfl) (by kernel_rfl) (by kernel_rfl) (fun _ _ _ h => h) (Or.inr ⟨by rfl, rfl⟩) (by assumption) ?_
  try simp only [Act.put, List.getElem_toArray, List.getElem_cons_succ, List.getElem_cons_zero, List.setIfInBounds_toArray, List.set_cons_zero, List.set_cons_succ]
  refine wpAnyH_take (i := 13) (v := undef) rfl (by kernel_rfl) (by kernel_rfl) (by kernel_rfl) (fun _ _ _ h => h) (Or.inr ⟨by rfl, rfl⟩) (by assumption) ?_
  try simp only [Act.put, List.getElem_toArray, List.getElem_cons_succ, List.getElem_cons_zero, List.setIfInBounds_toArray, List.set_cons_zero, List.set_cons_succ]
  refine wpAnyH_take (i := 14) (v := ?_) rfl (by kernel_rfl) (by kernel_rfl) (by kernel_rfl) (fun _ _ _ h => h) (Or.inl ⟨by rfl, ?_⟩) (by assumption) ?_
  rotate_left 1
  · (intro w9 hSw; (try dsimp only at hSw); go_simp; try with_reducible rfl)
  try simp only [Act.put, List.getElem_toArray, List.getElem_cons_succ, List.getElem_cons_zero, List.setIfInBounds_toArray, List.set_cons_zero, List.set_cons_succ]
  refine wpAnyH_take (i := 15) (v := ?_) rfl (by kernel_rfl) (by kernel_rfl) (by kernel_rfl) (fun _ _ _ h => h) (Or.inl ⟨by rfl, ?_⟩) (by assumption) ?_
  rotate_left 1
  · (intro w9 hSw; (try dsimp only at hSw); go_simp; try with_reducible rfl)
  try simp only [Act.put, List.getElem_toArray, List.getElem_cons_succ, List.getElem_cons_zero, List.setIfInBounds_toArray, List.set_cons_zero, List.set_cons_succ]
  refine wpAnyH_take (i := 16) (v := ?_) rfl (by kernel_rfl) (by kernel_rfl) (by kernel_rfl) (fun _ _ _ h => h) (Or.inl ⟨by rfl, ?_⟩) (by assumption) ?_
  rotate_left 1
  · (intro w9 hSw; (try dsimp only at hSw); go_simp; try with_reducible rfl)
  try simp only [Act.put, List.getElem_toArray, List.getElem_cons_succ, List.getElem_cons_zero, List.setIfInBounds_toArray, List.set_cons_zero, List.set_cons_succ]
  refine wpAnyH_done (by kernel_rfl) ?_ _
  all_goals go_wp2
  all_goals go_ret
  all_goals exact ⟨rfl, F24⟩
set_option maxRecDepth 50000 in
set_option maxHeartbeats 8000000 in
theorem jn_et (u v x y : Rv) (xs ys xs' ys' zs ws zs' ws' : List Nat) (o : Int) (p q p' q' : Rat) (w : World) (ho : 0 ≤ o ∧ o < 256) (hu : Rx w u xs ys) (hv : Rx w v xs' ys') (hx : Rx w x zs ws) (hy : Rx w y zs' ws') (ha : (Lu 2 u ∧ Lu 2 v ∧ (isC u.s xs ys && isC v.s xs' ys' && decide (rv u.s xs ys ≤ rv v.s xs' ys')) = true)) (hb : (Lu 2 x ∧ Lu 2 y ∧ (isC x.s zs ws && isC y.s zs' ws' && decide (rv x.s zs ws ≤ rv y.s zs' ws')) = true)) (ku : Cu w u p) (kv : Cu w v q) (kx : Cu w x p') (ky : Cu w y q') (hpq : p ≤ q) (hpq' : p' ≤ q') (sp2 : Qs 2 p) (sq2 : Qs 2 q) (sp2' : Qs 2 p') (sq2' : Qs 2 q') (hm : ¬ max p p' ≤ min q q') (hc : (decide (p ≤ min p p' + ((o : Rat) / ((255 : Int) : Rat)) * (max q q' - min p p')) && decide (min p p' + ((o : Rat) / ((255 : Int) : Rat)) * (max q q' - min p p') ≤ q)) = true) : Calls Try.prog 7 #[.agg #[.bool u.s, .slice u.A u.n u.c, .slice u.B u.m u.d, .bool v.s, .slice v.A v.n v.c, .slice v.B v.m v.d], .agg #[.bool x.s, .slice x.A x.n x.c, .slice x.B x.m x.d, .bool y.s, .slice y.A y.n y.c, .slice y.B y.m y.d], .int .u8 o] w (fun e w' => e = .returned (.bool true) ∧ Below w.heap.size w w') := by
  have HA := hide ha
  have HB := hide hb
  have sp := sp2.m (show 2 ≤ 100 by decide)
  have sq := sq2.m (show 2 ≤ 100 by decide)
  have sp' := sp2'.m (show 2 ≤ 100 by decide)
  have sq' := sq2'.m (show 2 ≤ 100 by decide)
  have la := (ku.len sp2).mono (show 2 ≤ 4000 by decide)
  have lc := (kv.len sq2).mono (show 2 ≤ 4000 by decide)
  have lx := (kx.len sp2').mono (show 2 ≤ 4000 by decide)
  have ly := (ky.len sq2').mono (show 2 ≤ 4000 by decide)
  obtain ⟨J1, hJ1⟩ : ∃ z, min p p' = z := ⟨_, rfl⟩
  obtain ⟨J2, hJ2⟩ : ∃ z, max q q' = z := ⟨_, rfl⟩
  have sJ1 : Qs 2 J1 := by rw [← hJ1]; exact qs_min sp2 sp2'
  have sJ2 : Qs 2 J2 := by rw [← hJ2]; exact qs_max sq2 sq2'
  have j1 : J1 ≤ p := by rw [← hJ1]; exact mn_l _ _
  have j2 : J1 ≤ p' := by rw [← hJ1]; exact mn_r _ _
  have j3 : q ≤ J2 := by rw [← hJ2]; exact mx_l _ _
  have j4 : q' ≤ J2 := by rw [← hJ2]; exact mx_r _ _
  have hJ : J1 ≤ J2 := Rat.le_trans j1 (Rat.le_trans hpq j3)
  obtain ⟨X, hX⟩ : ∃ X, J1 + (((o : Int) : Rat) / ((255 : Int) : Rat)) * (J2 - J1) = X := ⟨_, rfl⟩
  have sX := at_size ho sJ1 sJ2 hX
  obtain ⟨r2, hr2⟩ : ∃ r, (decide (p ≤ X) && decide (X ≤ q)) = r := ⟨_, rfl⟩
  obtain ⟨r3, hr3⟩ : ∃ r, (decide (p' ≤ X) && decide (X ≤ q')) = r := ⟨_, rfl⟩
  obtain ⟨r9, hr9⟩ : ∃ r, (decide (p' ≤ p) && decide (q ≤ q')) = r := ⟨_, rfl⟩
  rw [hJ1, hJ2, hX, hr2] at hc
  subst hc
  have hc1 := both_no (X := X) hm
  rw [hr2, hr3, Bool.true_and] at hc1
  subst hc1
  have HM := hide hm
  have z1 : Qs 100 (0 : Rat) := qs_lit6 (by decide +kernel)
  clear hm
  have x2 : (r9 != r9) = false := by simp
  have HR2 := hide hr2
  have HR3 := hide hr3
  have HR9 := hide hr9
  have HJ1 := hide hJ1
  have HJ2 := hide hJ2
  have HX := hide hX
  have HO := hide ho
  have HW1 := hide (show (decide (J1 ≤ p) && decide (q ≤ J2)) = true by rw [decide_eq_true j1, decide_eq_true j3]; rfl)
  have HW2 := hide (show (decide (J1 ≤ p') && decide (q' ≤ J2)) = true by rw [decide_eq_true j2, decide_eq_true j4]; rfl)
  have HP := hide (And.intro hpq (And.intro hpq' hJ))
  have sJ3 := sJ1.m (show 2 ≤ 100 by decide)
  have sJ4 := sJ2.m (show 2 ≤ 100 by decide)
  have sJ5 := sJ1.m (show 2 ≤ 9 by decide)
  have sJ6 := sJ2.m (show 2 ≤ 9 by decide)
  have sX1 := sX.m (show 9 ≤ 100 by decide)
  have k4 : 100 ≤ 4000 := by decide
  have ho1 := ho.1
  have ho2 := ho.2
  clear hr2 hr3 hr9 hJ1 hJ2 hX ho ha hb hpq hpq' j1 j2 j3 j4 hJ sJ1 sJ2 sX sp2 sq2 sp2' sq2'
  have hu_1 := hu.alloc (EV u v)
  have hv_1 := hv.alloc (EV u v)
  have hx_1 := hx.alloc (EV u v)
  have hy_1 := hy.alloc (EV u v)
  have ku_1 := ku.alloc (EV u v)
  have kv_1 := kv.alloc (EV u v)
  have kx_1 := kx.alloc (EV u v)
  have ky_1 := ky.alloc (EV u v)
  have ba_1 : Sv ((w).alloc (EV u v)) (w.heap.size) u v := by have h_ := Sv.new (w) u v; exact h_
  have F1 := (Below.refl w.heap.size w).alloc (Nat.le_refl _) (EV u v)
  have hu_2 := hu_1.alloc (EV x y)
  have hv_2 := hv_1.alloc (EV x y)
  have hx_2 := hx_1.alloc (EV x y)
  have hy_2 := hy_1.alloc (EV x y)
  have ku_2 := ku_1.alloc (EV x y)
  have kv_2 := kv_1.alloc (EV x y)
  have kx_2 := kx_1.alloc (EV x y)
  have ky_2 := ky_1.alloc (EV x y)
  have ba_2 := ba_1.alloc (EV x y)
  have bb_2 : Sv (((w).alloc (EV u v)).alloc (EV x y)) (w.heap.size + 1) x y := by have h_ := Sv.new ((w).alloc (EV u v)) x y; simp only [World.size_alloc] at h_; exact h_
  have F2 := F1.alloc F1.size (EV x y)
  go_enter Try.func7, Try.ntmps7
  have ba_u2 := ba_2.cell0
  have ba_v2 := ba_2.cell1
  have ba_w2 := ba_2.cell2
  have ba_x2 := ba_2.cell3
  have ba_y2 := ba_2.cell4
  have ba_z2 := ba_2.cell5
  have bb_u2 := bb_2.cell0
  have bb_v2 := bb_2.cell1
  have bb_w2 := bb_2.cell2
  have bb_x2 := bb_2.cell3
  have bb_y2 := bb_2.cell4
  have bb_z2 := bb_2.cell5
  go_wp2_with fail
  refine (awake6 _).mono ?_
  rintro e w3 ⟨rfl, b3⟩
  have hu_3 := hu_2.below b3
  have hv_3 := hv_2.below b3
  have hx_3 := hx_2.below b3
  have hy_3 := hy_2.below b3
  have ku_3 := ku_2.below b3
  have kv_3 := kv_2.below b3
  have kx_3 := kx_2.below b3
  have ky_3 := ky_2.below b3
  have ba_3 := ba_2.below b3 ba_2.lt
  have bb_3 := bb_2.below b3 bb_2.lt
  have F3 := below_then F2 (Nat.le_refl _) b3
  have ba_u3 := ba_3.cell0
  have ba_v3 := ba_3.cell1
  have ba_w3 := ba_3.cell2
  have ba_x3 := ba_3.cell3
  have ba_y3 := ba_3.cell4
  have ba_z3 := ba_3.cell5
  have bb_u3 := bb_3.cell0
  have bb_v3 := bb_3.cell1
  have bb_w3 := bb_3.cell2
  have bb_x3 := bb_3.cell3
  have bb_y3 := bb_3.cell4
  have bb_z3 := bb_3.cell5
  go_wp2_with fail
  refine (small_v _ _ xs ys xs' ys' true _ HA.out.2.2 hu_3 hv_3 HA.out.1 HA.out.2.1).mono ?_
  rintro e w4 ⟨rfl, b4⟩
  have hu_4 := hu_3.below b4
  have hv_4 := hv_3.below b4
  have hx_4 := hx_3.below b4
  have hy_4 := hy_3.below b4
  have ku_4 := ku_3.below b4
  have kv_4 := kv_3.below b4
  have kx_4 := kx_3.below b4
  have ky_4 := ky_3.below b4
  have ba_4 := ba_3.below b4 ba_3.lt
  have bb_4 := bb_3.below b4 bb_3.lt
  have F4 := below_then F3 (Nat.le_refl _) b4
  have ba_u4 := ba_4.cell0
  have ba_v4 := ba_4.cell1
  have ba_w4 := ba_4.cell2
  have ba_x4 := ba_4.cell3
  have ba_y4 := ba_4.cell4
  have ba_z4 := ba_4.cell5
  have bb_u4 := bb_4.cell0
  have bb_v4 := bb_4.cell1
  have bb_w4 := bb_4.cell2
  have bb_x4 := bb_4.cell3
  have bb_y4 := bb_4.cell4
  have bb_z4 := bb_4.cell5
  go_wp2_with fail
  refine (small_v _ _ zs ws zs' ws' true _ HB.out.2.2 hx_4 hy_4 HB.out.1 HB.out.2.1).mono ?_
  rintro e w5 ⟨rfl, b5⟩
  have hx_5 := hx_4.below b5
  have hy_5 := hy_4.below b5
  have ku_5 := ku_4.below b5
  have kv_5 := kv_4.below b5
  have kx_5 := kx_4.below b5
  have ky_5 := ky_4.below b5
  have ba_5 := ba_4.below b5 ba_4.lt
  have bb_5 := bb_4.below b5 bb_4.lt
  have F5 := below_then F4 (Nat.le_refl _) b5
  have ba_u5 := ba_5.cell0
  have ba_v5 := ba_5.cell1
  have ba_w5 := ba_5.cell2
  have ba_x5 := ba_5.cell3
  have ba_y5 := ba_5.cell4
  have ba_z5 := ba_5.cell5
  have bb_u5 := bb_5.cell0
  have bb_v5 := bb_5.cell1
  have bb_w5 := bb_5.cell2
  have bb_x5 := bb_5.cell3
  have bb_y5 := bb_5.cell4
  have bb_z5 := bb_5.cell5
  go_wp2_with fail
  refine (ijoin_e _ _ _ _ p q p' q' J1 J2 _ HJ1.out HJ2.out ku_5 kv_5 kx_5 ky_5 HP.out.1 HP.out.2.1 sp sq sp' sq').mono ?_
  rintro e w6 ⟨u6, v6, rfl, a1, a2, b6⟩
  have ku_6 := ku_5.below b6
  have kv_6 := kv_5.below b6
  have kx_6 := kx_5.below b6
  have ky_6 := ky_5.below b6
  have ba_6 := ba_5.below b6 ba_5.lt
  have bb_6 := bb_5.below b6 bb_5.lt
  have F6 := below_then F5 (Nat.le_refl _) b6
  have ba_u6 := ba_6.cell0
  have ba_v6 := ba_6.cell1
  have ba_w6 := ba_6.cell2
  have ba_x6 := ba_6.cell3
  have ba_y6 := ba_6.cell4
  have ba_z6 := ba_6.cell5
  have bb_u6 := bb_6.cell0
  have bb_v6 := bb_6.cell1
  have bb_w6 := bb_6.cell2
  have bb_x6 := bb_6.cell3
  have bb_y6 := bb_6.cell4
  have bb_z6 := bb_6.cell5
  have lt_bj_ba := ba_6.lt
  have lt_bj_bb := bb_6.lt
  have ku_7 := ku_6.alloc (EV u6 v6)
  have kv_7 := kv_6.alloc (EV u6 v6)
  have kx_7 := kx_6.alloc (EV u6 v6)
  have ky_7 := ky_6.alloc (EV u6 v6)
  have a1_7 := a1.alloc (EV u6 v6)
  have a2_7 := a2.alloc (EV u6 v6)
  have ba_7 := ba_6.alloc (EV u6 v6)
  have bb_7 := bb_6.alloc (EV u6 v6)
  have bj_7 : Sv ((w6).alloc (EV u6 v6)) (w6.heap.size) u6 v6 := by have h_ := Sv.new (w6) u6 v6; exact h_
  have F7 := F6.alloc F6.size (EV u6 v6)
  have ba_u7 := ba_7.cell0
  have ba_v7 := ba_7.cell1
  have ba_w7 := ba_7.cell2
  have ba_x7 := ba_7.cell3
  have ba_y7 := ba_7.cell4
  have ba_z7 := ba_7.cell5
  have bb_u7 := bb_7.cell0
  have bb_v7 := bb_7.cell1
  have bb_w7 := bb_7.cell2
  have bb_x7 := bb_7.cell3
  have bb_y7 := bb_7.cell4
  have bb_z7 := bb_7.cell5
  have bj_u7 := bj_7.cell0
  have bj_v7 := bj_7.cell1
  have bj_w7 := bj_7.cell2
  have bj_x7 := bj_7.cell3
  have bj_y7 := bj_7.cell4
  have bj_z7 := bj_7.cell5
  go_wp2_with fail
  refine (imeet_no _ _ _ _ p q p' q' _ ku_7 kv_7 kx_7 ky_7 HP.out.1 HP.out.2.1 sp sq sp' sq' HM.out).mono ?_
  rintro e w8 ⟨u8, v8, rfl, m1, m2, b8⟩
  have ku_8 := ku_7.below b8
  have kv_8 := kv_7.below b8
  have kx_8 := kx_7.below b8
  have ky_8 := ky_7.below b8
  have a1_8 := a1_7.below b8
  have a2_8 := a2_7.below b8
  have ba_8 := ba_7.below b8 ba_7.lt
  have bb_8 := bb_7.below b8 bb_7.lt
  have bj_8 := bj_7.below b8 bj_7.lt
  have F8 := below_then F7 (Nat.le_refl _) b8
  have ba_u8 := ba_8.cell0
  have ba_v8 := ba_8.cell1
  have ba_w8 := ba_8.cell2
  have ba_x8 := ba_8.cell3
  have ba_y8 := ba_8.cell4
  have ba_z8 := ba_8.cell5
  have bb_u8 := bb_8.cell0
  have bb_v8 := bb_8.cell1
  have bb_w8 := bb_8.cell2
  have bb_x8 := bb_8.cell3
  have bb_y8 := bb_8.cell4
  have bb_z8 := bb_8.cell5
  have bj_u8 := bj_8.cell0
  have bj_v8 := bj_8.cell1
  have bj_w8 := bj_8.cell2
  have bj_x8 := bj_8.cell3
  have bj_y8 := bj_8.cell4
  have bj_z8 := bj_8.cell5
  have lt_bm_ba := ba_8.lt
  have lt_bm_bb := bb_8.lt
  have lt_bm_bj := bj_8.lt
  have ku_9 := ku_8.alloc (EV u8 v8)
  have kv_9 := kv_8.alloc (EV u8 v8)
  have kx_9 := kx_8.alloc (EV u8 v8)
  have ky_9 := ky_8.alloc (EV u8 v8)
  have a1_9 := a1_8.alloc (EV u8 v8)
  have a2_9 := a2_8.alloc (EV u8 v8)
  have m1_9 := m1.alloc (EV u8 v8)
  have m2_9 := m2.alloc (EV u8 v8)
  have ba_9 := ba_8.alloc (EV u8 v8)
  have bb_9 := bb_8.alloc (EV u8 v8)
  have bj_9 := bj_8.alloc (EV u8 v8)
  have bm_9 : Sv ((w8).alloc (EV u8 v8)) (w8.heap.size) u8 v8 := by have h_ := Sv.new (w8) u8 v8; exact h_
  have F9 := F8.alloc F8.size (EV u8 v8)
  have ba_u9 := ba_9.cell0
  have ba_v9 := ba_9.cell1
  have ba_w9 := ba_9.cell2
  have ba_x9 := ba_9.cell3
  have ba_y9 := ba_9.cell4
  have ba_z9 := ba_9.cell5
  have bb_u9 := bb_9.cell0
  have bb_v9 := bb_9.cell1
  have bb_w9 := bb_9.cell2
  have bb_x9 := bb_9.cell3
  have bb_y9 := bb_9.cell4
  have bb_z9 := bb_9.cell5
  have bj_u9 := bj_9.cell0
  have bj_v9 := bj_9.cell1
  have bj_w9 := bj_9.cell2
  have bj_x9 := bj_9.cell3
  have bj_y9 := bj_9.cell4
  have bj_z9 := bj_9.cell5
  have bm_u9 := bm_9.cell0
  have bm_v9 := bm_9.cell1
  have bm_w9 := bm_9.cell2
  have bm_x9 := bm_9.cell3
  have bm_y9 := bm_9.cell4
  have bm_z9 := bm_9.cell5
  go_wp2_with fail
  refine (meet_no _ _ _ _ p q p' q' _ ku_9.iu kv_9.iu kx_9.iu ky_9.iu la lc lx ly sp sq sp' sq' HM.out).mono ?_
  rintro e w10 ⟨u10, v10, rfl, n1, n2, b10⟩
  have ku_10 := ku_9.below b10
  have kv_10 := kv_9.below b10
  have kx_10 := kx_9.below b10
  have ky_10 := ky_9.below b10
  have a1_10 := a1_9.below b10
  have a2_10 := a2_9.below b10
  have m1_10 := m1_9.below b10
  have m2_10 := m2_9.below b10
  have ba_10 := ba_9.below b10 ba_9.lt
  have bb_10 := bb_9.below b10 bb_9.lt
  have bj_10 := bj_9.below b10 bj_9.lt
  have bm_10 := bm_9.below b10 bm_9.lt
  have F10 := below_then F9 (Nat.le_refl _) b10
  have ba_u10 := ba_10.cell0
  have ba_v10 := ba_10.cell1
  have ba_w10 := ba_10.cell2
  have ba_x10 := ba_10.cell3
  have ba_y10 := ba_10.cell4
  have ba_z10 := ba_10.cell5
  have bb_u10 := bb_10.cell0
  have bb_v10 := bb_10.cell1
  have bb_w10 := bb_10.cell2
  have bb_x10 := bb_10.cell3
  have bb_y10 := bb_10.cell4
  have bb_z10 := bb_10.cell5
  have bj_u10 := bj_10.cell0
  have bj_v10 := bj_10.cell1
  have bj_w10 := bj_10.cell2
  have bj_x10 := bj_10.cell3
  have bj_y10 := bj_10.cell4
  have bj_z10 := bj_10.cell5
  have bm_u10 := bm_10.cell0
  have bm_v10 := bm_10.cell1
  have bm_w10 := bm_10.cell2
  have bm_x10 := bm_10.cell3
  have bm_y10 := bm_10.cell4
  have bm_z10 := bm_10.cell5
  have lt_bn_ba := ba_10.lt
  have lt_bn_bb := bb_10.lt
  have lt_bn_bj := bj_10.lt
  have lt_bn_bm := bm_10.lt
  have ku_11 := ku_10.alloc (EV u10 v10)
  have kv_11 := kv_10.alloc (EV u10 v10)
  have kx_11 := kx_10.alloc (EV u10 v10)
  have ky_11 := ky_10.alloc (EV u10 v10)
  have a1_11 := a1_10.alloc (EV u10 v10)
  have a2_11 := a2_10.alloc (EV u10 v10)
  have m1_11 := m1_10.alloc (EV u10 v10)
  have m2_11 := m2_10.alloc (EV u10 v10)
  have n1_11 := n1.alloc (EV u10 v10)
  have n2_11 := n2.alloc (EV u10 v10)
  have ba_11 := ba_10.alloc (EV u10 v10)
  have bb_11 := bb_10.alloc (EV u10 v10)
  have bj_11 := bj_10.alloc (EV u10 v10)
  have bm_11 := bm_10.alloc (EV u10 v10)
  have bn_11 : Sv ((w10).alloc (EV u10 v10)) (w10.heap.size) u10 v10 := by have h_ := Sv.new (w10) u10 v10; exact h_
  have F11 := F10.alloc F10.size (EV u10 v10)
  have ba_u11 := ba_11.cell0
  have ba_v11 := ba_11.cell1
  have ba_w11 := ba_11.cell2
  have ba_x11 := ba_11.cell3
  have ba_y11 := ba_11.cell4
  have ba_z11 := ba_11.cell5
  have bb_u11 := bb_11.cell0
  have bb_v11 := bb_11.cell1
  have bb_w11 := bb_11.cell2
  have bb_x11 := bb_11.cell3
  have bb_y11 := bb_11.cell4
  have bb_z11 := bb_11.cell5
  have bj_u11 := bj_11.cell0
  have bj_v11 := bj_11.cell1
  have bj_w11 := bj_11.cell2
  have bj_x11 := bj_11.cell3
  have bj_y11 := bj_11.cell4
  have bj_z11 := bj_11.cell5
  have bm_u11 := bm_11.cell0
  have bm_v11 := bm_11.cell1
  have bm_w11 := bm_11.cell2
  have bm_x11 := bm_11.cell3
  have bm_y11 := bm_11.cell4
  have bm_z11 := bm_11.cell5
  have bn_u11 := bn_11.cell0
  have bn_v11 := bn_11.cell1
  have bn_w11 := bn_11.cell2
  have bn_x11 := bn_11.cell3
  have bn_y11 := bn_11.cell4
  have bn_z11 := bn_11.cell5
  go_wp2_with fail
  have ku_12 := ku_11.drew
  have kv_12 := kv_11.drew
  have kx_12 := kx_11.drew
  have ky_12 := ky_11.drew
  have a1_12 := a1_11.drew
  have a2_12 := a2_11.drew
  have m1_12 := m1_11.drew
  have m2_12 := m2_11.drew
  have n1_12 := n1_11.drew
  have n2_12 := n2_11.drew
  have ba_12 := ba_11.drew
  have bb_12 := bb_11.drew
  have bj_12 := bj_11.drew
  have bm_12 := bm_11.drew
  have bn_12 := bn_11.drew
  have F12 := F11.drew
  go_region_held3 (fun w' => w'.cell? ⟨w.heap.size, 0, none⟩ = some (.bool u.s) ∧ w'.cell? ⟨w.heap.size, 1, none⟩ = some (.slice u.A u.n u.c) ∧ w'.cell? ⟨w.heap.size, 2, none⟩ = some (.slice u.B u.m u.d) ∧ w'.cell? ⟨w.heap.size, 3, none⟩ = some (.bool v.s) ∧ w'.cell? ⟨w.heap.size, 4, none⟩ = some (.slice v.A v.n v.c) ∧ w'.cell? ⟨w.heap.size, 5, none⟩ = some (.slice v.B v.m v.d) ∧ w'.cell? ⟨w.heap.size + 1, 0, none⟩ = some (.bool x.s) ∧ w'.cell? ⟨w.heap.size + 1, 1, none⟩ = some (.slice x.A x.n x.c) ∧ w'.cell? ⟨w.heap.size + 1, 2, none⟩ = some (.slice x.B x.m x.d) ∧ w'.cell? ⟨w.heap.size + 1, 3, none⟩ = some (.bool y.s) ∧ w'.cell? ⟨w.heap.size + 1, 4, none⟩ = some (.slice y.A y.n y.c) ∧ w'.cell? ⟨w.heap.size + 1, 5, none⟩ = some (.slice y.B y.m y.d) ∧ w'.cell? ⟨w6.heap.size, 0, none⟩ = some (.bool u6.s) ∧ w'.cell? ⟨w6.heap.size, 1, none⟩ = some (.slice u6.A u6.n u6.c) ∧ w'.cell? ⟨w6.heap.size, 2, none⟩ = some (.slice u6.B u6.m u6.d) ∧ w'.cell? ⟨w6.heap.size, 3, none⟩ = some (.bool v6.s) ∧ w'.cell? ⟨w6.heap.size, 4, none⟩ = some (.slice v6.A v6.n v6.c) ∧ w'.cell? ⟨w6.heap.size, 5, none⟩ = some (.slice v6.B v6.m v6.d) ∧ w'.cell? ⟨w8.heap.size, 0, none⟩ = some (.bool u8.s) ∧ w'.cell? ⟨w8.heap.size, 1, none⟩ = some (.slice u8.A u8.n u8.c) ∧ w'.cell? ⟨w8.heap.size, 2, none⟩ = some (.slice u8.B u8.m u8.d) ∧ w'.cell? ⟨w8.heap.size, 3, none⟩ = some (.bool v8.s) ∧ w'.cell? ⟨w8.heap.size, 4, none⟩ = some (.slice v8.A v8.n v8.c) ∧ w'.cell? ⟨w8.heap.size, 5, none⟩ = some (.slice v8.B v8.m v8.d) ∧ w'.cell? ⟨w10.heap.size, 0, none⟩ = some (.bool u10.s) ∧ w'.cell? ⟨w10.heap.size, 1, none⟩ = some (.slice u10.A u10.n u10.c) ∧ w'.cell? ⟨w10.heap.size, 2, none⟩ = some (.slice u10.B u10.m u10.d) ∧ w'.cell? ⟨w10.heap.size, 3, none⟩ = some (.bool v10.s) ∧ w'.cell? ⟨w10.heap.size, 4, none⟩ = some (.slice v10.A v10.n v10.c) ∧ w'.cell? ⟨w10.heap.size, 5, none⟩ = some (.slice v10.B v10.m v10.d))
    (first
      | with_reducible exact ⟨ba_19.cell0, ba_19.cell1, ba_19.cell2, ba_19.cell3, ba_19.cell4, ba_19.cell5, bb_19.cell0, bb_19.cell1, bb_19.cell2, bb_19.cell3, bb_19.cell4, bb_19.cell5, bj_19.cell0, bj_19.cell1, bj_19.cell2, bj_19.cell3, bj_19.cell4, bj_19.cell5, bm_19.cell0, bm_19.cell1, bm_19.cell2, bm_19.cell3, bm_19.cell4, bm_19.cell5, bn_19.cell0, bn_19.cell1, bn_19.cell2, bn_19.cell3, bn_19.cell4, bn_19.cell5⟩
      | with_reducible exact ⟨ba_18.cell0, ba_18.cell1, ba_18.cell2, ba_18.cell3, ba_18.cell4, ba_18.cell5, bb_18.cell0, bb_18.cell1, bb_18.cell2, bb_18.cell3, bb_18.cell4, bb_18.cell5, bj_18.cell0, bj_18.cell1, bj_18.cell2, bj_18.cell3, bj_18.cell4, bj_18.cell5, bm_18.cell0, bm_18.cell1, bm_18.cell2, bm_18.cell3, bm_18.cell4, bm_18.cell5, bn_18.cell0, bn_18.cell1, bn_18.cell2, bn_18.cell3, bn_18.cell4, bn_18.cell5⟩
      | with_reducible exact ⟨ba_17.cell0, ba_17.cell1, ba_17.cell2, ba_17.cell3, ba_17.cell4, ba_17.cell5, bb_17.cell0, bb_17.cell1, bb_17.cell2, bb_17.cell3, bb_17.cell4, bb_17.cell5, bj_17.cell0, bj_17.cell1, bj_17.cell2, bj_17.cell3, bj_17.cell4, bj_17.cell5, bm_17.cell0, bm_17.cell1, bm_17.cell2, bm_17.cell3, bm_17.cell4, bm_17.cell5, bn_17.cell0, bn_17.cell1, bn_17.cell2, bn_17.cell3, bn_17.cell4, bn_17.cell5⟩
      | with_reducible exact ⟨ba_16.cell0, ba_16.cell1, ba_16.cell2, ba_16.cell3, ba_16.cell4, ba_16.cell5, bb_16.cell0, bb_16.cell1, bb_16.cell2, bb_16.cell3, bb_16.cell4, bb_16.cell5, bj_16.cell0, bj_16.cell1, bj_16.cell2, bj_16.cell3, bj_16.cell4, bj_16.cell5, bm_16.cell0, bm_16.cell1, bm_16.cell2, bm_16.cell3, bm_16.cell4, bm_16.cell5, bn_16.cell0, bn_16.cell1, bn_16.cell2, bn_16.cell3, bn_16.cell4, bn_16.cell5⟩
      | with_reducible exact ⟨ba_15.cell0, ba_15.cell1, ba_15.cell2, ba_15.cell3, ba_15.cell4, ba_15.cell5, bb_15.cell0, bb_15.cell1, bb_15.cell2, bb_15.cell3, bb_15.cell4, bb_15.cell5, bj_15.cell0, bj_15.cell1, bj_15.cell2, bj_15.cell3, bj_15.cell4, bj_15.cell5, bm_15.cell0, bm_15.cell1, bm_15.cell2, bm_15.cell3, bm_15.cell4, bm_15.cell5, bn_15.cell0, bn_15.cell1, bn_15.cell2, bn_15.cell3, bn_15.cell4, bn_15.cell5⟩
      | with_reducible exact ⟨ba_14.cell0, ba_14.cell1, ba_14.cell2, ba_14.cell3, ba_14.cell4, ba_14.cell5, bb_14.cell0, bb_14.cell1, bb_14.cell2, bb_14.cell3, bb_14.cell4, bb_14.cell5, bj_14.cell0, bj_14.cell1, bj_14.cell2, bj_14.cell3, bj_14.cell4, bj_14.cell5, bm_14.cell0, bm_14.cell1, bm_14.cell2, bm_14.cell3, bm_14.cell4, bm_14.cell5, bn_14.cell0, bn_14.cell1, bn_14.cell2, bn_14.cell3, bn_14.cell4, bn_14.cell5⟩
      | with_reducible exact ⟨ba_13.cell0, ba_13.cell1, ba_13.cell2, ba_13.cell3, ba_13.cell4, ba_13.cell5, bb_13.cell0, bb_13.cell1, bb_13.cell2, bb_13.cell3, bb_13.cell4, bb_13.cell5, bj_13.cell0, bj_13.cell1, bj_13.cell2, bj_13.cell3, bj_13.cell4, bj_13.cell5, bm_13.cell0, bm_13.cell1, bm_13.cell2, bm_13.cell3, bm_13.cell4, bm_13.cell5, bn_13.cell0, bn_13.cell1, bn_13.cell2, bn_13.cell3, bn_13.cell4, bn_13.cell5⟩
      | with_reducible exact ⟨ba_12.cell0, ba_12.cell1, ba_12.cell2, ba_12.cell3, ba_12.cell4, ba_12.cell5, bb_12.cell0, bb_12.cell1, bb_12.cell2, bb_12.cell3, bb_12.cell4, bb_12.cell5, bj_12.cell0, bj_12.cell1, bj_12.cell2, bj_12.cell3, bj_12.cell4, bj_12.cell5, bm_12.cell0, bm_12.cell1, bm_12.cell2, bm_12.cell3, bm_12.cell4, bm_12.cell5, bn_12.cell0, bn_12.cell1, bn_12.cell2, bn_12.cell3, bn_12.cell4, bn_12.cell5⟩
      | fail)
    (first
      | (go_at_call 38; (with_reducible refine (rjoin_e _ _ _ _ p q p' q' J1 J2 _ HJ1.out HJ2.out ku_12.iu kv_12.iu kx_12.iu ky_12.iu la lc lx ly).mono ?_); rintro e w13 ⟨u13, v13, rfl, b1, b2, b13⟩; have ku_13 := ku_12.below b13; have kv_13 := kv_12.below b13; have kx_13 := kx_12.below b13; have ky_13 := ky_12.below b13; have a1_13 := a1_12.below b13; have a2_13 := a2_12.below b13; have m1_13 := m1_12.below b13; have m2_13 := m2_12.below b13; have n1_13 := n1_12.below b13; have n2_13 := n2_12.below b13; have ba_13 := ba_12.below b13 ba_12.lt; have bb_13 := bb_12.below b13 bb_12.lt; have bj_13 := bj_12.below b13 bj_12.lt; have bm_13 := bm_12.below b13 bm_12.lt; have bn_13 := bn_12.below b13 bn_12.lt; have F13 := below_then F12 (Nat.le_refl _) b13)
      | (go_at_call 13; (with_reducible refine (same_iv _ _ _ _ J1 J2 _ a1_13 a2_13 b1 b2 ((a1_13.len sJ3).mono k4) ((a2_13.len sJ4).mono k4)).mono ?_); rintro e w14 ⟨rfl, b14⟩; have ku_14 := ku_13.below b14; have kv_14 := kv_13.below b14; have kx_14 := kx_13.below b14; have ky_14 := ky_13.below b14; have a1_14 := a1_13.below b14; have a2_14 := a2_13.below b14; have m1_14 := m1_13.below b14; have m2_14 := m2_13.below b14; have n1_14 := n1_13.below b14; have n2_14 := n2_13.below b14; have b1_14 := b1.below b14; have b2_14 := b2.below b14; have ba_14 := ba_13.below b14 ba_13.lt; have bb_14 := bb_13.below b14 bb_13.lt; have bj_14 := bj_13.below b14 bj_13.lt; have bm_14 := bm_13.below b14 bm_13.lt; have bn_14 := bn_13.below b14 bn_13.lt; have F14 := below_then F13 (Nat.le_refl _) b14)
      | (go_at_call 13; (with_reducible refine (same_iv _ _ _ _ 0 0 _ m1_14 m2_14 n1_14 n2_14 ((m1_14.len z1).mono k4) ((m2_14.len z1).mono k4)).mono ?_); rintro e w15 ⟨rfl, b15⟩; have ku_15 := ku_14.below b15; have kv_15 := kv_14.below b15; have kx_15 := kx_14.below b15; have ky_15 := ky_14.below b15; have a1_15 := a1_14.below b15; have a2_15 := a2_14.below b15; have m1_15 := m1_14.below b15; have m2_15 := m2_14.below b15; have n1_15 := n1_14.below b15; have n2_15 := n2_14.below b15; have b1_15 := b1_14.below b15; have b2_15 := b2_14.below b15; have ba_15 := ba_14.below b15 ba_14.lt; have bb_15 := bb_14.below b15 bb_14.lt; have bj_15 := bj_14.below b15 bj_14.lt; have bm_15 := bm_14.below b15 bm_14.lt; have bn_15 := bn_14.below b15 bn_14.lt; have F15 := below_then F14 (Nat.le_refl _) b15)
      | (go_at_call 39; (with_reducible refine (iwithin_iv _ _ _ _ p q p' q' r9 _ HR9.out ku_15 kv_15 kx_15 ky_15 HP.out.1 HP.out.2.1 sp sq sp' sq').mono ?_); rintro e w16 ⟨rfl, b16⟩; have ku_16 := ku_15.below b16; have kv_16 := kv_15.below b16; have kx_16 := kx_15.below b16; have ky_16 := ky_15.below b16; have a1_16 := a1_15.below b16; have a2_16 := a2_15.below b16; have m1_16 := m1_15.below b16; have m2_16 := m2_15.below b16; have n1_16 := n1_15.below b16; have n2_16 := n2_15.below b16; have b1_16 := b1_15.below b16; have b2_16 := b2_15.below b16; have ba_16 := ba_15.below b16 ba_15.lt; have bb_16 := bb_15.below b16 bb_15.lt; have bj_16 := bj_15.below b16 bj_15.lt; have bm_16 := bm_15.below b16 bm_15.lt; have bn_16 := bn_15.below b16 bn_15.lt; have F16 := below_then F15 (Nat.le_refl _) b16)
      | (go_at_call 40; (with_reducible refine (within_iv _ _ _ _ p q p' q' r9 _ HR9.out ku_16.iu kv_16.iu kx_16.iu ky_16.iu la lc lx ly).mono ?_); rintro e w17 ⟨rfl, b17⟩; have ku_17 := ku_16.below b17; have kv_17 := kv_16.below b17; have kx_17 := kx_16.below b17; have ky_17 := ky_16.below b17; have a1_17 := a1_16.below b17; have a2_17 := a2_16.below b17; have m1_17 := m1_16.below b17; have m2_17 := m2_16.below b17; have n1_17 := n1_16.below b17; have n2_17 := n2_16.below b17; have b1_17 := b1_16.below b17; have b2_17 := b2_16.below b17; have ba_17 := ba_16.below b17 ba_16.lt; have bb_17 := bb_16.below b17 bb_16.lt; have bj_17 := bj_16.below b17 bj_16.lt; have bm_17 := bm_16.below b17 bm_16.lt; have bn_17 := bn_16.below b17 bn_16.lt; have F17 := below_then F16 (Nat.le_refl _) b17)
      | (go_at_call 39; (with_reducible refine (iwithin_iv _ _ _ _ p q J1 J2 true _ HW1.out ku_17 kv_17 a1_17 a2_17 HP.out.1 HP.out.2.2 sp sq sJ3 sJ4).mono ?_); rintro e w18 ⟨rfl, b18⟩; have ku_18 := ku_17.below b18; have kv_18 := kv_17.below b18; have kx_18 := kx_17.below b18; have ky_18 := ky_17.below b18; have a1_18 := a1_17.below b18; have a2_18 := a2_17.below b18; have m1_18 := m1_17.below b18; have m2_18 := m2_17.below b18; have n1_18 := n1_17.below b18; have n2_18 := n2_17.below b18; have b1_18 := b1_17.below b18; have b2_18 := b2_17.below b18; have ba_18 := ba_17.below b18 ba_17.lt; have bb_18 := bb_17.below b18 bb_17.lt; have bj_18 := bj_17.below b18 bj_17.lt; have bm_18 := bm_17.below b18 bm_17.lt; have bn_18 := bn_17.below b18 bn_17.lt; have F18 := below_then F17 (Nat.le_refl _) b18)
      | (go_at_call 39; (with_reducible refine (iwithin_iv _ _ _ _ p' q' J1 J2 true _ HW2.out kx_18 ky_18 a1_18 a2_18 HP.out.2.1 HP.out.2.2 sp' sq' sJ3 sJ4).mono ?_); rintro e w19 ⟨rfl, b19⟩; have ku_19 := ku_18.below b19; have kv_19 := kv_18.below b19; have kx_19 := kx_18.below b19; have ky_19 := ky_18.below b19; have a1_19 := a1_18.below b19; have a2_19 := a2_18.below b19; have m1_19 := m1_18.below b19; have m2_19 := m2_18.below b19; have n1_19 := n1_18.below b19; have n2_19 := n2_18.below b19; have b1_19 := b1_18.below b19; have b2_19 := b2_18.below b19; have ba_19 := ba_18.below b19 ba_18.lt; have bb_19 := bb_18.below b19 bb_18.lt; have bj_19 := bj_18.below b19 bj_18.lt; have bm_19 := bm_18.below b19 bm_18.lt; have bn_19 := bn_18.below b19 bn_18.lt; have F19 := below_then F18 (Nat.le_refl _) b19)
      | fail)
  have ba_u19 := ba_19.cell0
  have ba_v19 := ba_19.cell1
  have ba_w19 := ba_19.cell2
  have ba_x19 := ba_19.cell3
  have ba_y19 := ba_19.cell4
  have ba_z19 := ba_19.cell5
  have bb_u19 := bb_19.cell0
  have bb_v19 := bb_19.cell1
  have bb_w19 := bb_19.cell2
  have bb_x19 := bb_19.cell3
  have bb_y19 := bb_19.cell4
  have bb_z19 := bb_19.cell5
  have bj_u19 := bj_19.cell0
  have bj_v19 := bj_19.cell1
  have bj_w19 := bj_19.cell2
  have bj_x19 := bj_19.cell3
  have bj_y19 := bj_19.cell4
  have bj_z19 := bj_19.cell5
  have bm_u19 := bm_19.cell0
  have bm_v19 := bm_19.cell1
  have bm_w19 := bm_19.cell2
  have bm_x19 := bm_19.cell3
  have bm_y19 := bm_19.cell4
  have bm_z19 := bm_19.cell5
  have bn_u19 := bn_19.cell0
  have bn_v19 := bn_19.cell1
  have bn_w19 := bn_19.cell2
  have bn_x19 := bn_19.cell3
  have bn_y19 := bn_19.cell4
  have bn_z19 := bn_19.cell5
  have ba_u19 := ba_19.cell0
  have ba_v19 := ba_19.cell1
  have ba_w19 := ba_19.cell2
  have ba_x19 := ba_19.cell3
  have ba_y19 := ba_19.cell4
  have ba_z19 := ba_19.cell5
  have bb_u19 := bb_19.cell0
  have bb_v19 := bb_19.cell1
  have bb_w19 := bb_19.cell2
  have bb_x19 := bb_19.cell3
  have bb_y19 := bb_19.cell4
  have bb_z19 := bb_19.cell5
  have bj_u19 := bj_19.cell0
  have bj_v19 := bj_19.cell1
  have bj_w19 := bj_19.cell2
  have bj_x19 := bj_19.cell3
  have bj_y19 := bj_19.cell4
  have bj_z19 := bj_19.cell5
  have bm_u19 := bm_19.cell0
  have bm_v19 := bm_19.cell1
  have bm_w19 := bm_19.cell2
  have bm_x19 := bm_19.cell3
  have bm_y19 := bm_19.cell4
  have bm_z19 := bm_19.cell5
  go_wp2_with fail
  refine (at_u _ _ J1 J2 X o _ HX.out HO.out a1_19 a2_19 sJ5 sJ6).mono ?_
  rintro e w20 ⟨u20, rfl, x1, b20⟩
  have ku_20 := ku_19.below b20
  have kv_20 := kv_19.below b20
  have kx_20 := kx_19.below b20
  have ky_20 := ky_19.below b20
  have a1_20 := a1_19.below b20
  have a2_20 := a2_19.below b20
  have m1_20 := m1_19.below b20
  have m2_20 := m2_19.below b20
  have ba_20 := ba_19.below b20 ba_19.lt
  have bb_20 := bb_19.below b20 bb_19.lt
  have bj_20 := bj_19.below b20 bj_19.lt
  have bm_20 := bm_19.below b20 bm_19.lt
  have F20 := below_then F19 (Nat.le_refl _) b20
  have ba_u20 := ba_20.cell0
  have ba_v20 := ba_20.cell1
  have ba_w20 := ba_20.cell2
  have ba_x20 := ba_20.cell3
  have ba_y20 := ba_20.cell4
  have ba_z20 := ba_20.cell5
  have bb_u20 := bb_20.cell0
  have bb_v20 := bb_20.cell1
  have bb_w20 := bb_20.cell2
  have bb_x20 := bb_20.cell3
  have bb_y20 := bb_20.cell4
  have bb_z20 := bb_20.cell5
  have bj_u20 := bj_20.cell0
  have bj_v20 := bj_20.cell1
  have bj_w20 := bj_20.cell2
  have bj_x20 := bj_20.cell3
  have bj_y20 := bj_20.cell4
  have bj_z20 := bj_20.cell5
  have bm_u20 := bm_20.cell0
  have bm_v20 := bm_20.cell1
  have bm_w20 := bm_20.cell2
  have bm_x20 := bm_20.cell3
  have bm_y20 := bm_20.cell4
  have bm_z20 := bm_20.cell5
  have lt_bp_ba := ba_20.lt
  have lt_bp_bb := bb_20.lt
  have lt_bp_bj := bj_20.lt
  have lt_bp_bm := bm_20.lt
  have ku_21 := ku_20.alloc (EU u20)
  have kv_21 := kv_20.alloc (EU u20)
  have kx_21 := kx_20.alloc (EU u20)
  have ky_21 := ky_20.alloc (EU u20)
  have a1_21 := a1_20.alloc (EU u20)
  have a2_21 := a2_20.alloc (EU u20)
  have m1_21 := m1_20.alloc (EU u20)
  have m2_21 := m2_20.alloc (EU u20)
  have x1_21 := x1.alloc (EU u20)
  have ba_21 := ba_20.alloc (EU u20)
  have bb_21 := bb_20.alloc (EU u20)
  have bj_21 := bj_20.alloc (EU u20)
  have bm_21 := bm_20.alloc (EU u20)
  have bp_21 : Su ((w20).alloc (EU u20)) (w20.heap.size) u20 := by have h_ := Su.new (w20) u20; exact h_
  have F21 := F20.alloc F20.size (EU u20)
  have ba_u21 := ba_21.cell0
  have ba_v21 := ba_21.cell1
  have ba_w21 := ba_21.cell2
  have ba_x21 := ba_21.cell3
  have ba_y21 := ba_21.cell4
  have ba_z21 := ba_21.cell5
  have bb_u21 := bb_21.cell0
  have bb_v21 := bb_21.cell1
  have bb_w21 := bb_21.cell2
  have bb_x21 := bb_21.cell3
  have bb_y21 := bb_21.cell4
  have bb_z21 := bb_21.cell5
  have bj_u21 := bj_21.cell0
  have bj_v21 := bj_21.cell1
  have bj_w21 := bj_21.cell2
  have bj_x21 := bj_21.cell3
  have bj_y21 := bj_21.cell4
  have bj_z21 := bj_21.cell5
  have bm_u21 := bm_21.cell0
  have bm_v21 := bm_21.cell1
  have bm_w21 := bm_21.cell2
  have bm_x21 := bm_21.cell3
  have bm_y21 := bm_21.cell4
  have bm_z21 := bm_21.cell5
  have bp_u21 := bp_21.cell0
  have bp_v21 := bp_21.cell1
  have bp_w21 := bp_21.cell2
  go_wp2_with fail
  have ku_22 := ku_21.drew
  have kv_22 := kv_21.drew
  have kx_22 := kx_21.drew
  have ky_22 := ky_21.drew
  have x1_22 := x1_21.drew
  have ba_22 := ba_21.drew
  have bb_22 := bb_21.drew
  have bm_22 := bm_21.drew
  have bp_22 := bp_21.drew
  have F22 := F21.drew
  refine wp_region_held_drew (S := fun w' => w'.cell? ⟨w.heap.size, 0, none⟩ = some (.bool u.s) ∧ w'.cell? ⟨w.heap.size, 1, none⟩ = some (.slice u.A u.n u.c) ∧ w'.cell? ⟨w.heap.size, 2, none⟩ = some (.slice u.B u.m u.d) ∧ w'.cell? ⟨w.heap.size, 3, none⟩ = some (.bool v.s) ∧ w'.cell? ⟨w.heap.size, 4, none⟩ = some (.slice v.A v.n v.c) ∧ w'.cell? ⟨w.heap.size, 5, none⟩ = some (.slice v.B v.m v.d) ∧ w'.cell? ⟨w.heap.size + 1, 0, none⟩ = some (.bool x.s) ∧ w'.cell? ⟨w.heap.size + 1, 1, none⟩ = some (.slice x.A x.n x.c) ∧ w'.cell? ⟨w.heap.size + 1, 2, none⟩ = some (.slice x.B x.m x.d) ∧ w'.cell? ⟨w.heap.size + 1, 3, none⟩ = some (.bool y.s) ∧ w'.cell? ⟨w.heap.size + 1, 4, none⟩ = some (.slice y.A y.n y.c) ∧ w'.cell? ⟨w.heap.size + 1, 5, none⟩ = some (.slice y.B y.m y.d) ∧ w'.cell? ⟨w8.heap.size, 0, none⟩ = some (.bool u8.s) ∧ w'.cell? ⟨w8.heap.size, 1, none⟩ = some (.slice u8.A u8.n u8.c) ∧ w'.cell? ⟨w8.heap.size, 2, none⟩ = some (.slice u8.B u8.m u8.d) ∧ w'.cell? ⟨w8.heap.size, 3, none⟩ = some (.bool v8.s) ∧ w'.cell? ⟨w8.heap.size, 4, none⟩ = some (.slice v8.A v8.n v8.c) ∧ w'.cell? ⟨w8.heap.size, 5, none⟩ = some (.slice v8.B v8.m v8.d) ∧ w'.cell? ⟨w20.heap.size, 0, none⟩ = some (.bool u20.s) ∧ w'.cell? ⟨w20.heap.size, 1, none⟩ = some (.slice u20.A u20.n u20.c) ∧ w'.cell? ⟨w20.heap.size, 2, none⟩ = some (.slice u20.B u20.m u20.d)) (by kernel_rfl) ?_ (fun hHeld => ?_)
  · (try dsimp only); exact ⟨ba_22.cell0, ba_22.cell1, ba_22.cell2, ba_22.cell3, ba_22.cell4, ba_22.cell5, bb_22.cell0, bb_22.cell1, bb_22.cell2, bb_22.cell3, bb_22.cell4, bb_22.cell5, bm_22.cell0, bm_22.cell1, bm_22.cell2, bm_22.cell3, bm_22.cell4, bm_22.cell5, bp_22.cell0, bp_22.cell1, bp_22.cell2⟩
  refine wpAnyH_take (i := 0) (v := ?_) rfl (by kernel_rfl) (by kernel_rfl) (by kernel_rfl) (fun _ _ _ h => h) (Or.inl ⟨by rfl, ?_⟩) (by assumption) ?_
  rotate_left 1
  · (intro w9 hSw; (try dsimp only at hSw); go_simp; try with_reducible rfl)
  try simp only [Act.put, List.getElem_toArray, List.getElem_cons_succ, List.getElem_cons_zero, List.setIfInBounds_toArray, List.set_cons_zero, List.set_cons_succ]
  refine wpAnyH_take (i := 1) (v := ?_) rfl (by kernel_rfl) (by kernel_rfl) (by kernel_rfl) (fun _ _ _ h => h) (Or.inl ⟨by rfl, ?_⟩) (by assumption) ?_
  rotate_left 1
  · (intro w9 hSw; (try dsimp only at hSw); go_simp; try with_reducible rfl)
  try simp only [Act.put, List.getElem_toArray, List.getElem_cons_succ, List.getElem_cons_zero, List.setIfInBounds_toArray, List.set_cons_zero, List.set_cons_succ]
  refine wpAnyH_take (i := 2) (v := ?_) rfl (by kernel_rfl) (by kernel_rfl) (by kernel_rfl) (fun _ _ _ h => h) (Or.inl ⟨by rfl, ?_⟩) (by assumption) ?_
  rotate_left 1
  · (intro w9 hSw; (try dsimp only at hSw); go_simp; try with_reducible rfl)
  try simp only [Act.put, List.getElem_toArray, List.getElem_cons_succ, List.getElem_cons_zero, List.setIfInBounds_toArray, List.set_cons_zero, List.set_cons_succ]
  refine wpAnyH_take (i := 3) (v := undef) rfl (by kernel_rfl) (by kernel_rfl) (by kernel_rfl) (fun _ _ _ h => h) (Or.inr ⟨by rfl, rfl⟩) (by assumption) ?_
  try simp only [Act.put, List.getElem_toArray, List.getElem_cons_succ, List.getElem_cons_zero, List.setIfInBounds_toArray, List.set_cons_zero, List.set_cons_succ]
  refine wpAnyH_take (i := 4) (v := undef) rfl (by kernel_rfl) (by kernel_rfl) (by kernel_rfl) (fun _ _ _ h => h) (Or.inr ⟨by rfl, rfl⟩) (by assumption) ?_
  try simp only [Act.put, List.getElem_toArray, List.getElem_cons_succ, List.getElem_cons_zero, List.setIfInBounds_toArray, List.set_cons_zero, List.set_cons_succ]
  refine wpAnyH_take (i := 5) (v := undef) rfl (by kernel_rfl) (by kernel_rfl) (by kernel_rfl) (fun _ _ _ h => h) (Or.inr ⟨by rfl, rfl⟩) (by assumption) ?_
  try simp only [Act.put, List.getElem_toArray, List.getElem_cons_succ, List.getElem_cons_zero, List.setIfInBounds_toArray, List.set_cons_zero, List.set_cons_succ]
  refine wpAnyH_take (i := 6) (v := ?_) rfl (by kernel_rfl) (by kernel_rfl) (by kernel_rfl) (fun _ _ _ h => h) (Or.inl ⟨by rfl, ?_⟩) (by assumption) ?_
  rotate_left 1
  · (intro w9 hSw; (try dsimp only at hSw); go_simp; try with_reducible rfl)
  try simp only [Act.put, List.getElem_toArray, List.getElem_cons_succ, List.getElem_cons_zero, List.setIfInBounds_toArray, List.set_cons_zero, List.set_cons_succ]
  refine wpAnyH_take (i := 7) (v := ?_) rfl (by kernel_rfl) (by kernel_rfl) (by kernel_rfl) (fun _ _ _ h => h) (Or.inl ⟨by rfl, ?_⟩) (by assumption) ?_
  rotate_left 1
  · (intro w9 hSw; (try dsimp only at hSw); go_simp; try with_reducible rfl)
  try simp only [Act.put, List.getElem_toArray, List.getElem_cons_succ, List.getElem_cons_zero, List.setIfInBounds_toArray, List.set_cons_zero, List.set_cons_succ]
  refine wpAnyH_take (i := 8) (v := ?_) rfl (by kernel_rfl) (by kernel_rfl) (by kernel_rfl) (fun _ _ _ h => h) (Or.inl ⟨by rfl, ?_⟩) (by assumption) ?_
  rotate_left 1
  · (intro w9 hSw; (try dsimp only at hSw); go_simp; try with_reducible rfl)
  try simp only [Act.put, List.getElem_toArray, List.getElem_cons_succ, List.getElem_cons_zero, List.setIfInBounds_toArray, List.set_cons_zero, List.set_cons_succ]
  refine wpAnyH_ready (rs := [9]) (by kernel_rfl) (by simp) ?_
  refine AllReadyH.cons rfl (fun K hK => ?_) AllReadyH.nil
  go_simp
  go_at_call 16
  with_reducible refine (icont_iv _ _ _ p q X true _ HR2.out ku_22 kv_22 x1_22.iu (x1_22.len sX1) HP.out.1 sp sq sX1).mono ?_
  rintro e w23 ⟨rfl, b23⟩
  have ku_23 := ku_22.below b23
  have kv_23 := kv_22.below b23
  have kx_23 := kx_22.below b23
  have ky_23 := ky_22.below b23
  have x1_23 := x1_22.below b23
  have ba_23 := ba_22.below b23 ba_22.lt
  have bb_23 := bb_22.below b23 bb_22.lt
  have bm_23 := bm_22.below b23 bm_22.lt
  have bp_23 := bp_22.below b23 bp_22.lt
  have F23 := below_then F22 (Nat.le_refl _) b23
  try dsimp only
  refine hK.out _ _ ?_ (fun hHeld => ?_)
  · (try dsimp only); exact ⟨ba_23.cell0, ba_23.cell1, ba_23.cell2, ba_23.cell3, ba_23.cell4, ba_23.cell5, bb_23.cell0, bb_23.cell1, bb_23.cell2, bb_23.cell3, bb_23.cell4, bb_23.cell5, bm_23.cell0, bm_23.cell1, bm_23.cell2, bm_23.cell3, bm_23.cell4, bm_23.cell5, bp_23.cell0, bp_23.cell1, bp_23.cell2⟩
  clear hK K
  try simp only [Act.put, List.getElem_toArray, List.getElem_cons_succ, List.getElem_cons_zero, List.setIfInBounds_toArray, List.set_cons_zero, List.set_cons_succ]
  refine wpAnyH_take (i := 10) (v := ?_) rfl (by kernel_rfl) (by kernel_rfl) (by kernel_rfl) (fun _ _ _ h => h) (Or.inl ⟨by rfl, ?_⟩) (by assumption) ?_
  rotate_left 1
  · (intro w9 hSw; (try dsimp only at hSw); go_simp; try with_reducible rfl)
  try simp only [Act.put, List.getElem_toArray, List.getElem_cons_succ, List.getElem_cons_zero, List.setIfInBounds_toArray, List.set_cons_zero, List.set_cons_succ]
  refine wpAnyH_take (i := 11) (v := ?_) rfl (by kernel_rfl) (by kernel_rfl) (by kernel_rfl) (fun _ _ _ h => h) (Or.inl ⟨by rfl, ?_⟩) (by assumption) ?_
  rotate_left 1
  · (intro w9 hSw; (try dsimp only at hSw); go_simp; try with_reducible rfl)
  try simp only [Act.put, List.getElem_toArray, List.getElem_cons_succ, List.getElem_cons_zero, List.setIfInBounds_toArray, List.set_cons_zero, List.set_cons_succ]
  refine wpAnyH_take (i := 12) (v := ?_) rfl (by kernel_rfl) (by kernel_rfl) (by kernel_rfl) (fun _ _ _ h => h) (Or.inl ⟨by rfl, ?_⟩) (by assumption) ?_
  rotate_left 1
  · (intro w9 hSw; (try dsimp only at hSw); go_simp; try with_reducible rfl)
  try simp only [Act.put, List.getElem_toArray, List.getElem_cons_succ, List.getElem_cons_zero, List.setIfInBounds_toArray, List.set_cons_zero, List.set_cons_succ]
  refine wpAnyH_ready (rs := [13]) (by kernel_rfl) (by simp) ?_
  refine AllReadyH.cons rfl (fun K hK => ?_) AllReadyH.nil
  go_simp
  go_at_call 16
  with_reducible refine (icont_iv _ _ _ p' q' X false _ HR3.out kx_23 ky_23 x1_23.iu (x1_23.len sX1) HP.out.2.1 sp' sq' sX1).mono ?_
  rintro e w24 ⟨rfl, b24⟩
  have ku_24 := ku_23.below b24
  have kv_24 := kv_23.below b24
  have kx_24 := kx_23.below b24
  have ky_24 := ky_23.below b24
  have x1_24 := x1_23.below b24
  have ba_24 := ba_23.below b24 ba_23.lt
  have bb_24 := bb_23.below b24 bb_23.lt
  have bm_24 := bm_23.below b24 bm_23.lt
  have bp_24 := bp_23.below b24 bp_23.lt
  have F24 := below_then F23 (Nat.le_refl _) b24
  try dsimp only
  refine hK.out _ _ ?_ (fun hHeld => ?_)
  · (try dsimp only); exact ⟨ba_24.cell0, ba_24.cell1, ba_24.cell2, ba_24.cell3, ba_24.cell4, ba_24.cell5, bb_24.cell0, bb_24.cell1, bb_24.cell2, bb_24.cell3, bb_24.cell4, bb_24.cell5, bm_24.cell0, bm_24.cell1, bm_24.cell2, bm_24.cell3, bm_24.cell4, bm_24.cell5, bp_24.cell0, bp_24.cell1, bp_24.cell2⟩
  clear hK K
  try simp only [Act.put, List.getElem_toArray, List.getElem_cons_succ, List.getElem_cons_zero, List.setIfInBounds_toArray, List.set_cons_zero, List.set_cons_succ]
  refine wpAnyH_take (i := 14) (v := ?_) rfl (by kernel_rfl) (by kernel_rfl) (by kernel_rfl) (fun _ _ _ h => h) (Or.inl ⟨by rfl, ?_⟩) (by assumption) ?_
  rotate_left 1
  · (intro w9 hSw; (try dsimp only at hSw); go_simp; try with_reducible rfl)
  try simp only [Act.put, List.getElem_toArray, List.getElem_cons_succ, List.getElem_cons_zero, List.setIfInBounds_toArray, List.set_cons_zero, List.set_cons_succ]
  refine wpAnyH_take (i := 15) (v := ?_) rfl (by kernel_rfl) (by kernel_rfl) (by kernel_rfl) (fun _ _ _ h => h) (Or.inl ⟨by rfl, ?_⟩) (by assumption) ?_
  rotate_left 1
  · (intro w9 hSw; (try dsimp only at hSw); go_simp; try with_reducible rfl)
  try simp only [Act.put, List.getElem_toArray, List.getElem_cons_succ, List.getElem_cons_zero, List.setIfInBounds_toArray, List.set_cons_zero, List.set_cons_succ]
  refine wpAnyH_take (i := 16) (v := ?_) rfl (by kernel_rfl) (by kernel_rfl) (by kernel_rfl) (fun _ _ _ h => h) (Or.inl ⟨by rfl, ?_⟩) (by assumption) ?_
  rotate_left 1
  · (intro w9 hSw; (try dsimp only at hSw); go_simp; try with_reducible rfl)
  try simp only [Act.put, List.getElem_toArray, List.getElem_cons_succ, List.getElem_cons_zero, List.setIfInBounds_toArray, List.set_cons_zero, List.set_cons_succ]
  refine wpAnyH_done (by kernel_rfl) ?_ _
  all_goals go_wp2
  all_goals go_ret
  all_goals exact ⟨rfl, F24⟩
set_option maxRecDepth 50000 in
set_option maxHeartbeats 8000000 in
theorem jn_ef (u v x y : Rv) (xs ys xs' ys' zs ws zs' ws' : List Nat) (o : Int) (p q p' q' : Rat) (w : World) (ho : 0 ≤ o ∧ o < 256) (hu : Rx w u xs ys) (hv : Rx w v xs' ys') (hx : Rx w x zs ws) (hy : Rx w y zs' ws') (ha : (Lu 2 u ∧ Lu 2 v ∧ (isC u.s xs ys && isC v.s xs' ys' && decide (rv u.s xs ys ≤ rv v.s xs' ys')) = true)) (hb : (Lu 2 x ∧ Lu 2 y ∧ (isC x.s zs ws && isC y.s zs' ws' && decide (rv x.s zs ws ≤ rv y.s zs' ws')) = true)) (ku : Cu w u p) (kv : Cu w v q) (kx : Cu w x p') (ky : Cu w y q') (hpq : p ≤ q) (hpq' : p' ≤ q') (sp2 : Qs 2 p) (sq2 : Qs 2 q) (sp2' : Qs 2 p') (sq2' : Qs 2 q') (hm : ¬ max p p' ≤ min q q') (hc : (decide (p ≤ min p p' + ((o : Rat) / ((255 : Int) : Rat)) * (max q q' - min p p')) && decide (min p p' + ((o : Rat) / ((255 : Int) : Rat)) * (max q q' - min p p') ≤ q)) = false) : Calls Try.prog 7 #[.agg #[.bool u.s, .slice u.A u.n u.c, .slice u.B u.m u.d, .bool v.s, .slice v.A v.n v.c, .slice v.B v.m v.d], .agg #[.bool x.s, .slice x.A x.n x.c, .slice x.B x.m x.d, .bool y.s, .slice y.A y.n y.c, .slice y.B y.m y.d], .int .u8 o] w (fun e w' => e = .returned (.bool true) ∧ Below w.heap.size w w') := by
  have HA := hide ha
  have HB := hide hb
  have sp := sp2.m (show 2 ≤ 100 by decide)
  have sq := sq2.m (show 2 ≤ 100 by decide)
  have sp' := sp2'.m (show 2 ≤ 100 by decide)
  have sq' := sq2'.m (show 2 ≤ 100 by decide)
  have la := (ku.len sp2).mono (show 2 ≤ 4000 by decide)
  have lc := (kv.len sq2).mono (show 2 ≤ 4000 by decide)
  have lx := (kx.len sp2').mono (show 2 ≤ 4000 by decide)
  have ly := (ky.len sq2').mono (show 2 ≤ 4000 by decide)
  obtain ⟨J1, hJ1⟩ : ∃ z, min p p' = z := ⟨_, rfl⟩
  obtain ⟨J2, hJ2⟩ : ∃ z, max q q' = z := ⟨_, rfl⟩
  have sJ1 : Qs 2 J1 := by rw [← hJ1]; exact qs_min sp2 sp2'
  have sJ2 : Qs 2 J2 := by rw [← hJ2]; exact qs_max sq2 sq2'
  have j1 : J1 ≤ p := by rw [← hJ1]; exact mn_l _ _
  have j2 : J1 ≤ p' := by rw [← hJ1]; exact mn_r _ _
  have j3 : q ≤ J2 := by rw [← hJ2]; exact mx_l _ _
  have j4 : q' ≤ J2 := by rw [← hJ2]; exact mx_r _ _
  have hJ : J1 ≤ J2 := Rat.le_trans j1 (Rat.le_trans hpq j3)
  obtain ⟨X, hX⟩ : ∃ X, J1 + (((o : Int) : Rat) / ((255 : Int) : Rat)) * (J2 - J1) = X := ⟨_, rfl⟩
  have sX := at_size ho sJ1 sJ2 hX
  obtain ⟨r2, hr2⟩ : ∃ r, (decide (p ≤ X) && decide (X ≤ q)) = r := ⟨_, rfl⟩
  obtain ⟨r3, hr3⟩ : ∃ r, (decide (p' ≤ X) && decide (X ≤ q')) = r := ⟨_, rfl⟩
  obtain ⟨r9, hr9⟩ : ∃ r, (decide (p' ≤ p) && decide (q ≤ q')) = r := ⟨_, rfl⟩
  rw [hJ1, hJ2, hX, hr2] at hc
  subst hc
  have HM := hide hm
  have z1 : Qs 100 (0 : Rat) := qs_lit6 (by decide +kernel)
  clear hm
  have x2 : (r9 != r9) = false := by simp
  have HR2 := hide hr2
  have HR3 := hide hr3
  have HR9 := hide hr9
  have HJ1 := hide hJ1
  have HJ2 := hide hJ2
  have HX := hide hX
  have HO := hide ho
  have HW1 := hide (show (decide (J1 ≤ p) && decide (q ≤ J2)) = true by rw [decide_eq_true j1, decide_eq_true j3]; rfl)
  have HW2 := hide (show (decide (J1 ≤ p') && decide (q' ≤ J2)) = true by rw [decide_eq_true j2, decide_eq_true j4]; rfl)
  have HP := hide (And.intro hpq (And.intro hpq' hJ))
  have sJ3 := sJ1.m (show 2 ≤ 100 by decide)
  have sJ4 := sJ2.m (show 2 ≤ 100 by decide)
  have sJ5 := sJ1.m (show 2 ≤ 9 by decide)
  have sJ6 := sJ2.m (show 2 ≤ 9 by decide)
  have sX1 := sX.m (show 9 ≤ 100 by decide)
  have k4 : 100 ≤ 4000 := by decide
  have ho1 := ho.1
  have ho2 := ho.2
  clear hr2 hr3 hr9 hJ1 hJ2 hX ho ha hb hpq hpq' j1 j2 j3 j4 hJ sJ1 sJ2 sX sp2 sq2 sp2' sq2'
  have hu_1 := hu.alloc (EV u v)
  have hv_1 := hv.alloc (EV u v)
  have hx_1 := hx.alloc (EV u v)
  have hy_1 := hy.alloc (EV u v)
  have ku_1 := ku.alloc (EV u v)
  have kv_1 := kv.alloc (EV u v)
  have kx_1 := kx.alloc (EV u v)
  have ky_1 := ky.alloc (EV u v)
  have ba_1 : Sv ((w).alloc (EV u v)) (w.heap.size) u v := by have h_ := Sv.new (w) u v; exact h_
  have F1 := (Below.refl w.heap.size w).alloc (Nat.le_refl _) (EV u v)
  have hu_2 := hu_1.alloc (EV x y)
  have hv_2 := hv_1.alloc (EV x y)
  have hx_2 := hx_1.alloc (EV x y)
  have hy_2 := hy_1.alloc (EV x y)
  have ku_2 := ku_1.alloc (EV x y)
  have kv_2 := kv_1.alloc (EV x y)
  have kx_2 := kx_1.alloc (EV x y)
  have ky_2 := ky_1.alloc (EV x y)
  have ba_2 := ba_1.alloc (EV x y)
  have bb_2 : Sv (((w).alloc (EV u v)).alloc (EV x y)) (w.heap.size + 1) x y := by have h_ := Sv.new ((w).alloc (EV u v)) x y; simp only [World.size_alloc] at h_; exact h_
  have F2 := F1.alloc F1.size (EV x y)
  go_enter Try.func7, Try.ntmps7
  have ba_u2 := ba_2.cell0
  have ba_v2 := ba_2.cell1
  have ba_w2 := ba_2.cell2
  have ba_x2 := ba_2.cell3
  have ba_y2 := ba_2.cell4
  have ba_z2 := ba_2.cell5
  have bb_u2 := bb_2.cell0
  have bb_v2 := bb_2.cell1
  have bb_w2 := bb_2.cell2
  have bb_x2 := bb_2.cell3
  have bb_y2 := bb_2.cell4
  have bb_z2 := bb_2.cell5
  go_wp2_with fail
  refine (awake6 _).mono ?_
  rintro e w3 ⟨rfl, b3⟩
  have hu_3 := hu_2.below b3
  have hv_3 := hv_2.below b3
  have hx_3 := hx_2.below b3
  have hy_3 := hy_2.below b3
  have ku_3 := ku_2.below b3
  have kv_3 := kv_2.below b3
  have kx_3 := kx_2.below b3
  have ky_3 := ky_2.below b3
  have ba_3 := ba_2.below b3 ba_2.lt
  have bb_3 := bb_2.below b3 bb_2.lt
  have F3 := below_then F2 (Nat.le_refl _) b3
  have ba_u3 := ba_3.cell0
  have ba_v3 := ba_3.cell1
  have ba_w3 := ba_3.cell2
  have ba_x3 := ba_3.cell3
  have ba_y3 := ba_3.cell4
  have ba_z3 := ba_3.cell5
  have bb_u3 := bb_3.cell0
  have bb_v3 := bb_3.cell1
  have bb_w3 := bb_3.cell2
  have bb_x3 := bb_3.cell3
  have bb_y3 := bb_3.cell4
  have bb_z3 := bb_3.cell5
  go_wp2_with fail
  refine (small_v _ _ xs ys xs' ys' true _ HA.out.2.2 hu_3 hv_3 HA.out.1 HA.out.2.1).mono ?_
  rintro e w4 ⟨rfl, b4⟩
  have hu_4 := hu_3.below b4
  have hv_4 := hv_3.below b4
  have hx_4 := hx_3.below b4
  have hy_4 := hy_3.below b4
  have ku_4 := ku_3.below b4
  have kv_4 := kv_3.below b4
  have kx_4 := kx_3.below b4
  have ky_4 := ky_3.below b4
  have ba_4 := ba_3.below b4 ba_3.lt
  have bb_4 := bb_3.below b4 bb_3.lt
  have F4 := below_then F3 (Nat.le_refl _) b4
  have ba_u4 := ba_4.cell0
  have ba_v4 := ba_4.cell1
  have ba_w4 := ba_4.cell2
  have ba_x4 := ba_4.cell3
  have ba_y4 := ba_4.cell4
  have ba_z4 := ba_4.cell5
  have bb_u4 := bb_4.cell0
  have bb_v4 := bb_4.cell1
  have bb_w4 := bb_4.cell2
  have bb_x4 := bb_4.cell3
  have bb_y4 := bb_4.cell4
  have bb_z4 := bb_4.cell5
  go_wp2_with fail
  refine (small_v _ _ zs ws zs' ws' true _ HB.out.2.2 hx_4 hy_4 HB.out.1 HB.out.2.1).mono ?_
  rintro e w5 ⟨rfl, b5⟩
  have hx_5 := hx_4.below b5
  have hy_5 := hy_4.below b5
  have ku_5 := ku_4.below b5
  have kv_5 := kv_4.below b5
  have kx_5 := kx_4.below b5
  have ky_5 := ky_4.below b5
  have ba_5 := ba_4.below b5 ba_4.lt
  have bb_5 := bb_4.below b5 bb_4.lt
  have F5 := below_then F4 (Nat.le_refl _) b5
  have ba_u5 := ba_5.cell0
  have ba_v5 := ba_5.cell1
  have ba_w5 := ba_5.cell2
  have ba_x5 := ba_5.cell3
  have ba_y5 := ba_5.cell4
  have ba_z5 := ba_5.cell5
  have bb_u5 := bb_5.cell0
  have bb_v5 := bb_5.cell1
  have bb_w5 := bb_5.cell2
  have bb_x5 := bb_5.cell3
  have bb_y5 := bb_5.cell4
  have bb_z5 := bb_5.cell5
  go_wp2_with fail
  refine (ijoin_e _ _ _ _ p q p' q' J1 J2 _ HJ1.out HJ2.out ku_5 kv_5 kx_5 ky_5 HP.out.1 HP.out.2.1 sp sq sp' sq').mono ?_
  rintro e w6 ⟨u6, v6, rfl, a1, a2, b6⟩
  have ku_6 := ku_5.below b6
  have kv_6 := kv_5.below b6
  have kx_6 := kx_5.below b6
  have ky_6 := ky_5.below b6
  have ba_6 := ba_5.below b6 ba_5.lt
  have bb_6 := bb_5.below b6 bb_5.lt
  have F6 := below_then F5 (Nat.le_refl _) b6
  have ba_u6 := ba_6.cell0
  have ba_v6 := ba_6.cell1
  have ba_w6 := ba_6.cell2
  have ba_x6 := ba_6.cell3
  have ba_y6 := ba_6.cell4
  have ba_z6 := ba_6.cell5
  have bb_u6 := bb_6.cell0
  have bb_v6 := bb_6.cell1
  have bb_w6 := bb_6.cell2
  have bb_x6 := bb_6.cell3
  have bb_y6 := bb_6.cell4
  have bb_z6 := bb_6.cell5
  have lt_bj_ba := ba_6.lt
  have lt_bj_bb := bb_6.lt
  have ku_7 := ku_6.alloc (EV u6 v6)
  have kv_7 := kv_6.alloc (EV u6 v6)
  have kx_7 := kx_6.alloc (EV u6 v6)
  have ky_7 := ky_6.alloc (EV u6 v6)
  have a1_7 := a1.alloc (EV u6 v6)
  have a2_7 := a2.alloc (EV u6 v6)
  have ba_7 := ba_6.alloc (EV u6 v6)
  have bb_7 := bb_6.alloc (EV u6 v6)
  have bj_7 : Sv ((w6).alloc (EV u6 v6)) (w6.heap.size) u6 v6 := by have h_ := Sv.new (w6) u6 v6; exact h_
  have F7 := F6.alloc F6.size (EV u6 v6)
  have ba_u7 := ba_7.cell0
  have ba_v7 := ba_7.cell1
  have ba_w7 := ba_7.cell2
  have ba_x7 := ba_7.cell3
  have ba_y7 := ba_7.cell4
  have ba_z7 := ba_7.cell5
  have bb_u7 := bb_7.cell0
  have bb_v7 := bb_7.cell1
  have bb_w7 := bb_7.cell2
  have bb_x7 := bb_7.cell3
  have bb_y7 := bb_7.cell4
  have bb_z7 := bb_7.cell5
  have bj_u7 := bj_7.cell0
  have bj_v7 := bj_7.cell1
  have bj_w7 := bj_7.cell2
  have bj_x7 := bj_7.cell3
  have bj_y7 := bj_7.cell4
  have bj_z7 := bj_7.cell5
  go_wp2_with fail
  refine (imeet_no _ _ _ _ p q p' q' _ ku_7 kv_7 kx_7 ky_7 HP.out.1 HP.out.2.1 sp sq sp' sq' HM.out).mono ?_
  rintro e w8 ⟨u8, v8, rfl, m1, m2, b8⟩
  have ku_8 := ku_7.below b8
  have kv_8 := kv_7.below b8
  have kx_8 := kx_7.below b8
  have ky_8 := ky_7.below b8
  have a1_8 := a1_7.below b8
  have a2_8 := a2_7.below b8
  have ba_8 := ba_7.below b8 ba_7.lt
  have bb_8 := bb_7.below b8 bb_7.lt
  have bj_8 := bj_7.below b8 bj_7.lt
  have F8 := below_then F7 (Nat.le_refl _) b8
  have ba_u8 := ba_8.cell0
  have ba_v8 := ba_8.cell1
  have ba_w8 := ba_8.cell2
  have ba_x8 := ba_8.cell3
  have ba_y8 := ba_8.cell4
  have ba_z8 := ba_8.cell5
  have bb_u8 := bb_8.cell0
  have bb_v8 := bb_8.cell1
  have bb_w8 := bb_8.cell2
  have bb_x8 := bb_8.cell3
  have bb_y8 := bb_8.cell4
  have bb_z8 := bb_8.cell5
  have bj_u8 := bj_8.cell0
  have bj_v8 := bj_8.cell1
  have bj_w8 := bj_8.cell2
  have bj_x8 := bj_8.cell3
  have bj_y8 := bj_8.cell4
  have bj_z8 := bj_8.cell5
  have lt_bm_ba := ba_8.lt
  have lt_bm_bb := bb_8.lt
  have lt_bm_bj := bj_8.lt
  have ku_9 := ku_8.alloc (EV u8 v8)
  have kv_9 := kv_8.alloc (EV u8 v8)
  have kx_9 := kx_8.alloc (EV u8 v8)
  have ky_9 := ky_8.alloc (EV u8 v8)
  have a1_9 := a1_8.alloc (EV u8 v8)
  have a2_9 := a2_8.alloc (EV u8 v8)
  have m1_9 := m1.alloc (EV u8 v8)
  have m2_9 := m2.alloc (EV u8 v8)
  have ba_9 := ba_8.alloc (EV u8 v8)
  have bb_9 := bb_8.alloc (EV u8 v8)
  have bj_9 := bj_8.alloc (EV u8 v8)
  have bm_9 : Sv ((w8).alloc (EV u8 v8)) (w8.heap.size) u8 v8 := by have h_ := Sv.new (w8) u8 v8; exact h_
  have F9 := F8.alloc F8.size (EV u8 v8)
  have ba_u9 := ba_9.cell0
  have ba_v9 := ba_9.cell1
  have ba_w9 := ba_9.cell2
  have ba_x9 := ba_9.cell3
  have ba_y9 := ba_9.cell4
  have ba_z9 := ba_9.cell5
  have bb_u9 := bb_9.cell0
  have bb_v9 := bb_9.cell1
  have bb_w9 := bb_9.cell2
  have bb_x9 := bb_9.cell3
  have bb_y9 := bb_9.cell4
  have bb_z9 := bb_9.cell5
  have bj_u9 := bj_9.cell0
  have bj_v9 := bj_9.cell1
  have bj_w9 := bj_9.cell2
  have bj_x9 := bj_9.cell3
  have bj_y9 := bj_9.cell4
  have bj_z9 := bj_9.cell5
  have bm_u9 := bm_9.cell0
  have bm_v9 := bm_9.cell1
  have bm_w9 := bm_9.cell2
  have bm_x9 := bm_9.cell3
  have bm_y9 := bm_9.cell4
  have bm_z9 := bm_9.cell5
  go_wp2_with fail
  refine (meet_no _ _ _ _ p q p' q' _ ku_9.iu kv_9.iu kx_9.iu ky_9.iu la lc lx ly sp sq sp' sq' HM.out).mono ?_
  rintro e w10 ⟨u10, v10, rfl, n1, n2, b10⟩
  have ku_10 := ku_9.below b10
  have kv_10 := kv_9.below b10
  have kx_10 := kx_9.below b10
  have ky_10 := ky_9.below b10
  have a1_10 := a1_9.below b10
  have a2_10 := a2_9.below b10
  have m1_10 := m1_9.below b10
  have m2_10 := m2_9.below b10
  have ba_10 := ba_9.below b10 ba_9.lt
  have bb_10 := bb_9.below b10 bb_9.lt
  have bj_10 := bj_9.below b10 bj_9.lt
  have bm_10 := bm_9.below b10 bm_9.lt
  have F10 := below_then F9 (Nat.le_refl _) b10
  have ba_u10 := ba_10.cell0
  have ba_v10 := ba_10.cell1
  have ba_w10 := ba_10.cell2
  have ba_x10 := ba_10.cell3
  have ba_y10 := ba_10.cell4
  have ba_z10 := ba_10.cell5
  have bb_u10 := bb_10.cell0
  have bb_v10 := bb_10.cell1
  have bb_w10 := bb_10.cell2
  have bb_x10 := bb_10.cell3
  have bb_y10 := bb_10.cell4
  have bb_z10 := bb_10.cell5
  have bj_u10 := bj_10.cell0
  have bj_v10 := bj_10.cell1
  have bj_w10 := bj_10.cell2
  have bj_x10 := bj_10.cell3
  have bj_y10 := bj_10.cell4
  have bj_z10 := bj_10.cell5
  have bm_u10 := bm_10.cell0
  have bm_v10 := bm_10.cell1
  have bm_w10 := bm_10.cell2
  have bm_x10 := bm_10.cell3
  have bm_y10 := bm_10.cell4
  have bm_z10 := bm_10.cell5
  have lt_bn_ba := ba_10.lt
  have lt_bn_bb := bb_10.lt
  have lt_bn_bj := bj_10.lt
  have lt_bn_bm := bm_10.lt
  have ku_11 := ku_10.alloc (EV u10 v10)
  have kv_11 := kv_10.alloc (EV u10 v10)
  have kx_11 := kx_10.alloc (EV u10 v10)
  have ky_11 := ky_10.alloc (EV u10 v10)
  have a1_11 := a1_10.alloc (EV u10 v10)
  have a2_11 := a2_10.alloc (EV u10 v10)
  have m1_11 := m1_10.alloc (EV u10 v10)
  have m2_11 := m2_10.alloc (EV u10 v10)
  have n1_11 := n1.alloc (EV u10 v10)
  have n2_11 := n2.alloc (EV u10 v10)
  have ba_11 := ba_10.alloc (EV u10 v10)
  have bb_11 := bb_10.alloc (EV u10 v10)
  have bj_11 := bj_10.alloc (EV u10 v10)
  have bm_11 := bm_10.alloc (EV u10 v10)
  have bn_11 : Sv ((w10).alloc (EV u10 v10)) (w10.heap.size) u10 v10 := by have h_ := Sv.new (w10) u10 v10; exact h_
  have F11 := F10.alloc F10.size (EV u10 v10)
  have ba_u11 := ba_11.cell0
  have ba_v11 := ba_11.cell1
  have ba_w11 := ba_11.cell2
  have ba_x11 := ba_11.cell3
  have ba_y11 := ba_11.cell4
  have ba_z11 := ba_11.cell5
  have bb_u11 := bb_11.cell0
  have bb_v11 := bb_11.cell1
  have bb_w11 := bb_11.cell2
  have bb_x11 := bb_11.cell3
  have bb_y11 := bb_11.cell4
  have bb_z11 := bb_11.cell5
  have bj_u11 := bj_11.cell0
  have bj_v11 := bj_11.cell1
  have bj_w11 := bj_11.cell2
  have bj_x11 := bj_11.cell3
  have bj_y11 := bj_11.cell4
  have bj_z11 := bj_11.cell5
  have bm_u11 := bm_11.cell0
  have bm_v11 := bm_11.cell1
  have bm_w11 := bm_11.cell2
  have bm_x11 := bm_11.cell3
  have bm_y11 := bm_11.cell4
  have bm_z11 := bm_11.cell5
  have bn_u11 := bn_11.cell0
  have bn_v11 := bn_11.cell1
  have bn_w11 := bn_11.cell2
  have bn_x11 := bn_11.cell3
  have bn_y11 := bn_11.cell4
  have bn_z11 := bn_11.cell5
  go_wp2_with fail
  have ku_12 := ku_11.drew
  have kv_12 := kv_11.drew
  have kx_12 := kx_11.drew
  have ky_12 := ky_11.drew
  have a1_12 := a1_11.drew
  have a2_12 := a2_11.drew
  have m1_12 := m1_11.drew
  have m2_12 := m2_11.drew
  have n1_12 := n1_11.drew
  have n2_12 := n2_11.drew
  have ba_12 := ba_11.drew
  have bb_12 := bb_11.drew
  have bj_12 := bj_11.drew
  have bm_12 := bm_11.drew
  have bn_12 := bn_11.drew
  have F12 := F11.drew
  go_region_held3 (fun w' => w'.cell? ⟨w.heap.size, 0, none⟩ = some (.bool u.s) ∧ w'.cell? ⟨w.heap.size, 1, none⟩ = some (.slice u.A u.n u.c) ∧ w'.cell? ⟨w.heap.size, 2, none⟩ = some (.slice u.B u.m u.d) ∧ w'.cell? ⟨w.heap.size, 3, none⟩ = some (.bool v.s) ∧ w'.cell? ⟨w.heap.size, 4, none⟩ = some (.slice v.A v.n v.c) ∧ w'.cell? ⟨w.heap.size, 5, none⟩ = some (.slice v.B v.m v.d) ∧ w'.cell? ⟨w.heap.size + 1, 0, none⟩ = some (.bool x.s) ∧ w'.cell? ⟨w.heap.size + 1, 1, none⟩ = some (.slice x.A x.n x.c) ∧ w'.cell? ⟨w.heap.size + 1, 2, none⟩ = some (.slice x.B x.m x.d) ∧ w'.cell? ⟨w.heap.size + 1, 3, none⟩ = some (.bool y.s) ∧ w'.cell? ⟨w.heap.size + 1, 4, none⟩ = some (.slice y.A y.n y.c) ∧ w'.cell? ⟨w.heap.size + 1, 5, none⟩ = some (.slice y.B y.m y.d) ∧ w'.cell? ⟨w6.heap.size, 0, none⟩ = some (.bool u6.s) ∧ w'.cell? ⟨w6.heap.size, 1, none⟩ = some (.slice u6.A u6.n u6.c) ∧ w'.cell? ⟨w6.heap.size, 2, none⟩ = some (.slice u6.B u6.m u6.d) ∧ w'.cell? ⟨w6.heap.size, 3, none⟩ = some (.bool v6.s) ∧ w'.cell? ⟨w6.heap.size, 4, none⟩ = some (.slice v6.A v6.n v6.c) ∧ w'.cell? ⟨w6.heap.size, 5, none⟩ = some (.slice v6.B v6.m v6.d) ∧ w'.cell? ⟨w8.heap.size, 0, none⟩ = some (.bool u8.s) ∧ w'.cell? ⟨w8.heap.size, 1, none⟩ = some (.slice u8.A u8.n u8.c) ∧ w'.cell? ⟨w8.heap.size, 2, none⟩ = some (.slice u8.B u8.m u8.d) ∧ w'.cell? ⟨w8.heap.size, 3, none⟩ = some (.bool v8.s) ∧ w'.cell? ⟨w8.heap.size, 4, none⟩ = some (.slice v8.A v8.n v8.c) ∧ w'.cell? ⟨w8.heap.size, 5, none⟩ = some (.slice v8.B v8.m v8.d) ∧ w'.cell? ⟨w10.heap.size, 0, none⟩ = some (.bool u10.s) ∧ w'.cell? ⟨w10.heap.size, 1, none⟩ = some (.slice u10.A u10.n u10.c) ∧ w'.cell? ⟨w10.heap.size, 2, none⟩ = some (.slice u10.B u10.m u10.d) ∧ w'.cell? ⟨w10.heap.size, 3, none⟩ = some (.bool v10.s) ∧ w'.cell? ⟨w10.heap.size, 4, none⟩ = some (.slice v10.A v10.n v10.c) ∧ w'.cell? ⟨w10.heap.size, 5, none⟩ = some (.slice v10.B v10.m v10.d))
    (first
      | with_reducible exact ⟨ba_19.cell0, ba_19.cell1, ba_19.cell2, ba_19.cell3, ba_19.cell4, ba_19.cell5, bb_19.cell0, bb_19.cell1, bb_19.cell2, bb_19.cell3, bb_19.cell4, bb_19.cell5, bj_19.cell0, bj_19.cell1, bj_19.cell2, bj_19.cell3, bj_19.cell4, bj_19.cell5, bm_19.cell0, bm_19.cell1, bm_19.cell2, bm_19.cell3, bm_19.cell4, bm_19.cell5, bn_19.cell0, bn_19.cell1, bn_19.cell2, bn_19.cell3, bn_19.cell4, bn_19.cell5⟩
      | with_reducible exact ⟨ba_18.cell0, ba_18.cell1, ba_18.cell2, ba_18.cell3, ba_18.cell4, ba_18.cell5, bb_18.cell0, bb_18.cell1, bb_18.cell2, bb_18.cell3, bb_18.cell4, bb_18.cell5, bj_18.cell0, bj_18.cell1, bj_18.cell2, bj_18.cell3, bj_18.cell4, bj_18.cell5, bm_18.cell0, bm_18.cell1, bm_18.cell2, bm_18.cell3, bm_18.cell4, bm_18.cell5, bn_18.cell0, bn_18.cell1, bn_18.cell2, bn_18.cell3, bn_18.cell4, bn_18.cell5⟩
      | with_reducible exact ⟨ba_17.cell0, ba_17.cell1, ba_17.cell2, ba_17.cell3, ba_17.cell4, ba_17.cell5, bb_17.cell0, bb_17.cell1, bb_17.cell2, bb_17.cell3, bb_17.cell4, bb_17.cell5, bj_17.cell0, bj_17.cell1, bj_17.cell2, bj_17.cell3, bj_17.cell4, bj_17.cell5, bm_17.cell0, bm_17.cell1, bm_17.cell2, bm_17.cell3, bm_17.cell4, bm_17.cell5, bn_17.cell0, bn_17.cell1, bn_17.cell2, bn_17.cell3, bn_17.cell4, bn_17.cell5⟩
      | with_reducible exact ⟨ba_16.cell0, ba_16.cell1, ba_16.cell2, ba_16.cell3, ba_16.cell4, ba_16.cell5, bb_16.cell0, bb_16.cell1, bb_16.cell2, bb_16.cell3, bb_16.cell4, bb_16.cell5, bj_16.cell0, bj_16.cell1, bj_16.cell2, bj_16.cell3, bj_16.cell4, bj_16.cell5, bm_16.cell0, bm_16.cell1, bm_16.cell2, bm_16.cell3, bm_16.cell4, bm_16.cell5, bn_16.cell0, bn_16.cell1, bn_16.cell2, bn_16.cell3, bn_16.cell4, bn_16.cell5⟩
      | with_reducible exact ⟨ba_15.cell0, ba_15.cell1, ba_15.cell2, ba_15.cell3, ba_15.cell4, ba_15.cell5, bb_15.cell0, bb_15.cell1, bb_15.cell2, bb_15.cell3, bb_15.cell4, bb_15.cell5, bj_15.cell0, bj_15.cell1, bj_15.cell2, bj_15.cell3, bj_15.cell4, bj_15.cell5, bm_15.cell0, bm_15.cell1, bm_15.cell2, bm_15.cell3, bm_15.cell4, bm_15.cell5, bn_15.cell0, bn_15.cell1, bn_15.cell2, bn_15.cell3, bn_15.cell4, bn_15.cell5⟩
      | with_reducible exact ⟨ba_14.cell0, ba_14.cell1, ba_14.cell2, ba_14.cell3, ba_14.cell4, ba_14.cell5, bb_14.cell0, bb_14.cell1, bb_14.cell2, bb_14.cell3, bb_14.cell4, bb_14.cell5, bj_14.cell0, bj_14.cell1, bj_14.cell2, bj_14.cell3, bj_14.cell4, bj_14.cell5, bm_14.cell0, bm_14.cell1, bm_14.cell2, bm_14.cell3, bm_14.cell4, bm_14.cell5, bn_14.cell0, bn_14.cell1, bn_14.cell2, bn_14.cell3, bn_14.cell4, bn_14.cell5⟩
      | with_reducible exact ⟨ba_13.cell0, ba_13.cell1, ba_13.cell2, ba_13.cell3, ba_13.cell4, ba_13.cell5, bb_13.cell0, bb_13.cell1, bb_13.cell2, bb_13.cell3, bb_13.cell4, bb_13.cell5, bj_13.cell0, bj_13.cell1, bj_13.cell2, bj_13.cell3, bj_13.cell4, bj_13.cell5, bm_13.cell0, bm_13.cell1, bm_13.cell2, bm_13.cell3, bm_13.cell4, bm_13.cell5, bn_13.cell0, bn_13.cell1, bn_13.cell2, bn_13.cell3, bn_13.cell4, bn_13.cell5⟩
      | with_reducible exact ⟨ba_12.cell0, ba_12.cell1, ba_12.cell2, ba_12.cell3, ba_12.cell4, ba_12.cell5, bb_12.cell0, bb_12.cell1, bb_12.cell2, bb_12.cell3, bb_12.cell4, bb_12.cell5, bj_12.cell0, bj_12.cell1, bj_12.cell2, bj_12.cell3, bj_12.cell4, bj_12.cell5, bm_12.cell0, bm_12.cell1, bm_12.cell2, bm_12.cell3, bm_12.cell4, bm_12.cell5, bn_12.cell0, bn_12.cell1, bn_12.cell2, bn_12.cell3, bn_12.cell4, bn_12.cell5⟩
      | fail)
    (first
      | (go_at_call 38; (with_reducible refine (rjoin_e _ _ _ _ p q p' q' J1 J2 _ HJ1.out HJ2.out ku_12.iu kv_12.iu kx_12.iu ky_12.iu la lc lx ly).mono ?_); rintro e w13 ⟨u13, v13, rfl, b1, b2, b13⟩; have ku_13 := ku_12.below b13; have kv_13 := kv_12.below b13; have kx_13 := kx_12.below b13; have ky_13 := ky_12.below b13; have a1_13 := a1_12.below b13; have a2_13 := a2_12.below b13; have m1_13 := m1_12.below b13; have m2_13 := m2_12.below b13; have n1_13 := n1_12.below b13; have n2_13 := n2_12.below b13; have ba_13 := ba_12.below b13 ba_12.lt; have bb_13 := bb_12.below b13 bb_12.lt; have bj_13 := bj_12.below b13 bj_12.lt; have bm_13 := bm_12.below b13 bm_12.lt; have bn_13 := bn_12.below b13 bn_12.lt; have F13 := below_then F12 (Nat.le_refl _) b13)
      | (go_at_call 13; (with_reducible refine (same_iv _ _ _ _ J1 J2 _ a1_13 a2_13 b1 b2 ((a1_13.len sJ3).mono k4) ((a2_13.len sJ4).mono k4)).mono ?_); rintro e w14 ⟨rfl, b14⟩; have ku_14 := ku_13.below b14; have kv_14 := kv_13.below b14; have kx_14 := kx_13.below b14; have ky_14 := ky_13.below b14; have a1_14 := a1_13.below b14; have a2_14 := a2_13.below b14; have m1_14 := m1_13.below b14; have m2_14 := m2_13.below b14; have n1_14 := n1_13.below b14; have n2_14 := n2_13.below b14; have b1_14 := b1.below b14; have b2_14 := b2.below b14; have ba_14 := ba_13.below b14 ba_13.lt; have bb_14 := bb_13.below b14 bb_13.lt; have bj_14 := bj_13.below b14 bj_13.lt; have bm_14 := bm_13.below b14 bm_13.lt; have bn_14 := bn_13.below b14 bn_13.lt; have F14 := below_then F13 (Nat.le_refl _) b14)
      | (go_at_call 13; (with_reducible refine (same_iv _ _ _ _ 0 0 _ m1_14 m2_14 n1_14 n2_14 ((m1_14.len z1).mono k4) ((m2_14.len z1).mono k4)).mono ?_); rintro e w15 ⟨rfl, b15⟩; have ku_15 := ku_14.below b15; have kv_15 := kv_14.below b15; have kx_15 := kx_14.below b15; have ky_15 := ky_14.below b15; have a1_15 := a1_14.below b15; have a2_15 := a2_14.below b15; have m1_15 := m1_14.below b15; have m2_15 := m2_14.below b15; have n1_15 := n1_14.below b15; have n2_15 := n2_14.below b15; have b1_15 := b1_14.below b15; have b2_15 := b2_14.below b15; have ba_15 := ba_14.below b15 ba_14.lt; have bb_15 := bb_14.below b15 bb_14.lt; have bj_15 := bj_14.below b15 bj_14.lt; have bm_15 := bm_14.below b15 bm_14.lt; have bn_15 := bn_14.below b15 bn_14.lt; have F15 := below_then F14 (Nat.le_refl _) b15)
      | (go_at_call 39; (with_reducible refine (iwithin_iv _ _ _ _ p q p' q' r9 _ HR9.out ku_15 kv_15 kx_15 ky_15 HP.out.1 HP.out.2.1 sp sq sp' sq').mono ?_); rintro e w16 ⟨rfl, b16⟩; have ku_16 := ku_15.below b16; have kv_16 := kv_15.below b16; have kx_16 := kx_15.below b16; have ky_16 := ky_15.below b16; have a1_16 := a1_15.below b16; have a2_16 := a2_15.below b16; have m1_16 := m1_15.below b16; have m2_16 := m2_15.below b16; have n1_16 := n1_15.below b16; have n2_16 := n2_15.below b16; have b1_16 := b1_15.below b16; have b2_16 := b2_15.below b16; have ba_16 := ba_15.below b16 ba_15.lt; have bb_16 := bb_15.below b16 bb_15.lt; have bj_16 := bj_15.below b16 bj_15.lt; have bm_16 := bm_15.below b16 bm_15.lt; have bn_16 := bn_15.below b16 bn_15.lt; have F16 := below_then F15 (Nat.le_refl _) b16)
      | (go_at_call 40; (with_reducible refine (within_iv _ _ _ _ p q p' q' r9 _ HR9.out ku_16.iu kv_16.iu kx_16.iu ky_16.iu la lc lx ly).mono ?_); rintro e w17 ⟨rfl, b17⟩; have ku_17 := ku_16.below b17; have kv_17 := kv_16.below b17; have kx_17 := kx_16.below b17; have ky_17 := ky_16.below b17; have a1_17 := a1_16.below b17; have a2_17 := a2_16.below b17; have m1_17 := m1_16.below b17; have m2_17 := m2_16.below b17; have n1_17 := n1_16.below b17; have n2_17 := n2_16.below b17; have b1_17 := b1_16.below b17; have b2_17 := b2_16.below b17; have ba_17 := ba_16.below b17 ba_16.lt; have bb_17 := bb_16.below b17 bb_16.lt; have bj_17 := bj_16.below b17 bj_16.lt; have bm_17 := bm_16.below b17 bm_16.lt; have bn_17 := bn_16.below b17 bn_16.lt; have F17 := below_then F16 (Nat.le_refl _) b17)
      | (go_at_call 39; (with_reducible refine (iwithin_iv _ _ _ _ p q J1 J2 true _ HW1.out ku_17 kv_17 a1_17 a2_17 HP.out.1 HP.out.2.2 sp sq sJ3 sJ4).mono ?_); rintro e w18 ⟨rfl, b18⟩; have ku_18 := ku_17.below b18; have kv_18 := kv_17.below b18; have kx_18 := kx_17.below b18; have ky_18 := ky_17.below b18; have a1_18 := a1_17.below b18; have a2_18 := a2_17.below b18; have m1_18 := m1_17.below b18; have m2_18 := m2_17.below b18; have n1_18 := n1_17.below b18; have n2_18 := n2_17.below b18; have b1_18 := b1_17.below b18; have b2_18 := b2_17.below b18; have ba_18 := ba_17.below b18 ba_17.lt; have bb_18 := bb_17.below b18 bb_17.lt; have bj_18 := bj_17.below b18 bj_17.lt; have bm_18 := bm_17.below b18 bm_17.lt; have bn_18 := bn_17.below b18 bn_17.lt; have F18 := below_then F17 (Nat.le_refl _) b18)
      | (go_at_call 39; (with_reducible refine (iwithin_iv _ _ _ _ p' q' J1 J2 true _ HW2.out kx_18 ky_18 a1_18 a2_18 HP.out.2.1 HP.out.2.2 sp' sq' sJ3 sJ4).mono ?_); rintro e w19 ⟨rfl, b19⟩; have ku_19 := ku_18.below b19; have kv_19 := kv_18.below b19; have kx_19 := kx_18.below b19; have ky_19 := ky_18.below b19; have a1_19 := a1_18.below b19; have a2_19 := a2_18.below b19; have m1_19 := m1_18.below b19; have m2_19 := m2_18.below b19; have n1_19 := n1_18.below b19; have n2_19 := n2_18.below b19; have b1_19 := b1_18.below b19; have b2_19 := b2_18.below b19; have ba_19 := ba_18.below b19 ba_18.lt; have bb_19 := bb_18.below b19 bb_18.lt; have bj_19 := bj_18.below b19 bj_18.lt; have bm_19 := bm_18.below b19 bm_18.lt; have bn_19 := bn_18.below b19 bn_18.lt; have F19 := below_then F18 (Nat.le_refl _) b19)
      | fail)
  have ba_u19 := ba_19.cell0
  have ba_v19 := ba_19.cell1
  have ba_w19 := ba_19.cell2
  have ba_x19 := ba_19.cell3
  have ba_y19 := ba_19.cell4
  have ba_z19 := ba_19.cell5
  have bb_u19 := bb_19.cell0
  have bb_v19 := bb_19.cell1
  have bb_w19 := bb_19.cell2
  have bb_x19 := bb_19.cell3
  have bb_y19 := bb_19.cell4
  have bb_z19 := bb_19.cell5
  have bj_u19 := bj_19.cell0
  have bj_v19 := bj_19.cell1
  have bj_w19 := bj_19.cell2
  have bj_x19 := bj_19.cell3
  have bj_y19 := bj_19.cell4
  have bj_z19 := bj_19.cell5
  have bm_u19 := bm_19.cell0
  have bm_v19 := bm_19.cell1
  have bm_w19 := bm_19.cell2
  have bm_x19 := bm_19.cell3
  have bm_y19 := bm_19.cell4
  have bm_z19 := bm_19.cell5
  have bn_u19 := bn_19.cell0
  have bn_v19 := bn_19.cell1
  have bn_w19 := bn_19.cell2
  have bn_x19 := bn_19.cell3
  have bn_y19 := bn_19.cell4
  have bn_z19 := bn_19.cell5
  have ba_u19 := ba_19.cell0
  have ba_v19 := ba_19.cell1
  have ba_w19 := ba_19.cell2
  have ba_x19 := ba_19.cell3
  have ba_y19 := ba_19.cell4
  have ba_z19 := ba_19.cell5
  have bb_u19 := bb_19.cell0
  have bb_v19 := bb_19.cell1
  have bb_w19 := bb_19.cell2
  have bb_x19 := bb_19.cell3
  have bb_y19 := bb_19.cell4
  have bb_z19 := bb_19.cell5
  have bj_u19 := bj_19.cell0
  have bj_v19 := bj_19.cell1
  have bj_w19 := bj_19.cell2
  have bj_x19 := bj_19.cell3
  have bj_y19 := bj_19.cell4
  have bj_z19 := bj_19.cell5
  have bm_u19 := bm_19.cell0
  have bm_v19 := bm_19.cell1
  have bm_w19 := bm_19.cell2
  have bm_x19 := bm_19.cell3
  have bm_y19 := bm_19.cell4
  have bm_z19 := bm_19.cell5
  go_wp2_with fail
  refine (at_u _ _ J1 J2 X o _ HX.out HO.out a1_19 a2_19 sJ5 sJ6).mono ?_
  rintro e w20 ⟨u20, rfl, x1, b20⟩
  have ku_20 := ku_19.below b20
  have kv_20 := kv_19.below b20
  have kx_20 := kx_19.below b20
  have ky_20 := ky_19.below b20
  have a1_20 := a1_19.below b20
  have a2_20 := a2_19.below b20
  have m1_20 := m1_19.below b20
  have m2_20 := m2_19.below b20
  have ba_20 := ba_19.below b20 ba_19.lt
  have bb_20 := bb_19.below b20 bb_19.lt
  have bj_20 := bj_19.below b20 bj_19.lt
  have bm_20 := bm_19.below b20 bm_19.lt
  have F20 := below_then F19 (Nat.le_refl _) b20
  have ba_u20 := ba_20.cell0
  have ba_v20 := ba_20.cell1
  have ba_w20 := ba_20.cell2
  have ba_x20 := ba_20.cell3
  have ba_y20 := ba_20.cell4
  have ba_z20 := ba_20.cell5
  have bb_u20 := bb_20.cell0
  have bb_v20 := bb_20.cell1
  have bb_w20 := bb_20.cell2
  have bb_x20 := bb_20.cell3
  have bb_y20 := bb_20.cell4
  have bb_z20 := bb_20.cell5
  have bj_u20 := bj_20.cell0
  have bj_v20 := bj_20.cell1
  have bj_w20 := bj_20.cell2
  have bj_x20 := bj_20.cell3
  have bj_y20 := bj_20.cell4
  have bj_z20 := bj_20.cell5
  have bm_u20 := bm_20.cell0
  have bm_v20 := bm_20.cell1
  have bm_w20 := bm_20.cell2
  have bm_x20 := bm_20.cell3
  have bm_y20 := bm_20.cell4
  have bm_z20 := bm_20.cell5
  have lt_bp_ba := ba_20.lt
  have lt_bp_bb := bb_20.lt
  have lt_bp_bj := bj_20.lt
  have lt_bp_bm := bm_20.lt
  have ku_21 := ku_20.alloc (EU u20)
  have kv_21 := kv_20.alloc (EU u20)
  have kx_21 := kx_20.alloc (EU u20)
  have ky_21 := ky_20.alloc (EU u20)
  have a1_21 := a1_20.alloc (EU u20)
  have a2_21 := a2_20.alloc (EU u20)
  have m1_21 := m1_20.alloc (EU u20)
  have m2_21 := m2_20.alloc (EU u20)
  have x1_21 := x1.alloc (EU u20)
  have ba_21 := ba_20.alloc (EU u20)
  have bb_21 := bb_20.alloc (EU u20)
  have bj_21 := bj_20.alloc (EU u20)
  have bm_21 := bm_20.alloc (EU u20)
  have bp_21 : Su ((w20).alloc (EU u20)) (w20.heap.size) u20 := by have h_ := Su.new (w20) u20; exact h_
  have F21 := F20.alloc F20.size (EU u20)
  have ba_u21 := ba_21.cell0
  have ba_v21 := ba_21.cell1
  have ba_w21 := ba_21.cell2
  have ba_x21 := ba_21.cell3
  have ba_y21 := ba_21.cell4
  have ba_z21 := ba_21.cell5
  have bb_u21 := bb_21.cell0
  have bb_v21 := bb_21.cell1
  have bb_w21 := bb_21.cell2
  have bb_x21 := bb_21.cell3
  have bb_y21 := bb_21.cell4
  have bb_z21 := bb_21.cell5
  have bj_u21 := bj_21.cell0
  have bj_v21 := bj_21.cell1
  have bj_w21 := bj_21.cell2
  have bj_x21 := bj_21.cell3
  have bj_y21 := bj_21.cell4
  have bj_z21 := bj_21.cell5
  have bm_u21 := bm_21.cell0
  have bm_v21 := bm_21.cell1
  have bm_w21 := bm_21.cell2
  have bm_x21 := bm_21.cell3
  have bm_y21 := bm_21.cell4
  have bm_z21 := bm_21.cell5
  have bp_u21 := bp_21.cell0
  have bp_v21 := bp_21.cell1
  have bp_w21 := bp_21.cell2
  go_wp2_with fail
  have ku_22 := ku_21.drew
  have kv_22 := kv_21.drew
  have kx_22 := kx_21.drew
  have ky_22 := ky_21.drew
  have x1_22 := x1_21.drew
  have ba_22 := ba_21.drew
  have bb_22 := bb_21.drew
  have bm_22 := bm_21.drew
  have bp_22 := bp_21.drew
  have F22 := F21.drew
  refine wp_region_held_drew (S := fun w' => w'.cell? ⟨w.heap.size, 0, none⟩ = some (.bool u.s) ∧ w'.cell? ⟨w.heap.size, 1, none⟩ = some (.slice u.A u.n u.c) ∧ w'.cell? ⟨w.heap.size, 2, none⟩ = some (.slice u.B u.m u.d) ∧ w'.cell? ⟨w.heap.size, 3, none⟩ = some (.bool v.s) ∧ w'.cell? ⟨w.heap.size, 4, none⟩ = some (.slice v.A v.n v.c) ∧ w'.cell? ⟨w.heap.size, 5, none⟩ = some (.slice v.B v.m v.d) ∧ w'.cell? ⟨w.heap.size + 1, 0, none⟩ = some (.bool x.s) ∧ w'.cell? ⟨w.heap.size + 1, 1, none⟩ = some (.slice x.A x.n x.c) ∧ w'.cell? ⟨w.heap.size + 1, 2, none⟩ = some (.slice x.B x.m x.d) ∧ w'.cell? ⟨w.heap.size + 1, 3, none⟩ = some (.bool y.s) ∧ w'.cell? ⟨w.heap.size + 1, 4, none⟩ = some (.slice y.A y.n y.c) ∧ w'.cell? ⟨w.heap.size + 1, 5, none⟩ = some (.slice y.B y.m y.d) ∧ w'.cell? ⟨w8.heap.size, 0, none⟩ = some (.bool u8.s) ∧ w'.cell? ⟨w8.heap.size, 1, none⟩ = some (.slice u8.A u8.n u8.c) ∧ w'.cell? ⟨w8.heap.size, 2, none⟩ = some (.slice u8.B u8.m u8.d) ∧ w'.cell? ⟨w8.heap.size, 3, none⟩ = some (.bool v8.s) ∧ w'.cell? ⟨w8.heap.size, 4, none⟩ = some (.slice v8.A v8.n v8.c) ∧ w'.cell? ⟨w8.heap.size, 5, none⟩ = some (.slice v8.B v8.m v8.d) ∧ w'.cell? ⟨w20.heap.size, 0, none⟩ = some (.bool u20.s) ∧ w'.cell? ⟨w20.heap.size, 1, none⟩ = some (.slice u20.A u20.n u20.c) ∧ w'.cell? ⟨w20.heap.size, 2, none⟩ = some (.slice u20.B u20.m u20.d)) (by kernel_rfl) ?_ (fun hHeld => ?_)
  · (try dsimp only); exact ⟨ba_22.cell0, ba_22.cell1, ba_22.cell2, ba_22.cell3, ba_22.cell4, ba_22.cell5, bb_22.cell0, bb_22.cell1, bb_22.cell2, bb_22.cell3, bb_22.cell4, bb_22.cell5, bm_22.cell0, bm_22.cell1, bm_22.cell2, bm_22.cell3, bm_22.cell4, bm_22.cell5, bp_22.cell0, bp_22.cell1, bp_22.cell2⟩
  refine wpAnyH_take (i := 0) (v := ?_) rfl (by kernel_rfl) (by kernel_rfl) (by kernel_rfl) (fun _ _ _ h => h) (Or.inl ⟨by rfl, ?_⟩) (by assumption) ?_
  rotate_left 1
  · (intro w9 hSw; (try dsimp only at hSw); go_simp; try with_reducible rfl)
  try simp only [Act.put, List.getElem_toArray, List.getElem_cons_succ, List.getElem_cons_zero, List.setIfInBounds_toArray, List.set_cons_zero, List.set_cons_succ]
  refine wpAnyH_take (i := 1) (v := ?_) rfl (by kernel_rfl) (by kernel_rfl) (by kernel_rfl) (fun _ _ _ h => h) (Or.inl ⟨by rfl, ?_⟩) (by assumption) ?_
  rotate_left 1
  · (intro w9 hSw; (try dsimp only at hSw); go_simp; try with_reducible rfl)
  try simp only [Act.put, List.getElem_toArray, List.getElem_cons_succ, List.getElem_cons_zero, List.setIfInBounds_toArray, List.set_cons_zero, List.set_cons_succ]
  refine wpAnyH_take (i := 2) (v := ?_) rfl (by kernel_rfl) (by kernel_rfl) (by kernel_rfl) (fun _ _ _ h => h) (Or.inl ⟨by rfl, ?_⟩) (by assumption) ?_
  rotate_left 1
  · (intro w9 hSw; (try dsimp only at hSw); go_simp; try with_reducible rfl)
  try simp only [Act.put, List.getElem_toArray, List.getElem_cons_succ, List.getElem_cons_zero, List.setIfInBounds_toArray, List.set_cons_zero, List.set_cons_succ]
  refine wpAnyH_take (i := 3) (v := undef) rfl (by kernel_rfl) (by kernel_rfl) (by kernel_rfl) (fun _ _ _ h => h) (Or.inr ⟨by rfl, rfl⟩) (by assumption) ?_
  try simp only [Act.put, List.getElem_toArray, List.getElem_cons_succ, List.getElem_cons_zero, List.setIfInBounds_toArray, List.set_cons_zero, List.set_cons_succ]
  refine wpAnyH_take (i := 4) (v := undef) rfl (by kernel_rfl) (by kernel_rfl) (by kernel_rfl) (fun _ _ _ h => h) (Or.inr ⟨by rfl, rfl⟩) (by assumption) ?_
  try simp only [Act.put, List.getElem_toArray, List.getElem_cons_succ, List.getElem_cons_zero, List.setIfInBounds_toArray, List.set_cons_zero, List.set_cons_succ]
  refine wpAnyH_take (i := 5) (v := undef) rfl (by kernel_rfl) (by kernel_rfl) (by kernel_rfl) (fun _ _ _ h => h) (Or.inr ⟨by rfl, rfl⟩) (by assumption) ?_
  try simp only [Act.put, List.getElem_toArray, List.getElem_cons_succ, List.getElem_cons_zero, List.setIfInBounds_toArray, List.set_cons_zero, List.set_cons_succ]
  refine wpAnyH_take (i := 6) (v := ?_) rfl (by kernel_rfl) (by kernel_rfl) (by kernel_rfl) (fun _ _ _ h => h) (Or.inl ⟨by rfl, ?_⟩) (by assumption) ?_
  rotate_left 1
  · (intro w9 hSw; (try dsimp only at hSw); go_simp; try with_reducible rfl)
  try simp only [Act.put, List.getElem_toArray, List.getElem_cons_succ, List.getElem_cons_zero, List.setIfInBounds_toArray, List.set_cons_zero, List.set_cons_succ]
  refine wpAnyH_take (i := 7) (v := ?_) rfl (by kernel_rfl) (by kernel_rfl) (by kernel_rfl) (fun _ _ _ h => h) (Or.inl ⟨by rfl, ?_⟩) (by assumption) ?_
  rotate_left 1
  · (intro w9 hSw; (try dsimp only at hSw); go_simp; try with_reducible rfl)
  try simp only [Act.put, List.getElem_toArray, List.getElem_cons_succ, List.getElem_cons_zero, List.setIfInBounds_toArray, List.set_cons_zero, List.set_cons_succ]
  refine wpAnyH_take (i := 8) (v := ?_) rfl (by kernel_rfl) (by kernel_rfl) (by kernel_rfl) (fun _ _ _ h => h) (Or.inl ⟨by rfl, ?_⟩) (by assumption) ?_
  rotate_left 1
  · (intro w9 hSw; (try dsimp only at hSw); go_simp; try with_reducible rfl)
  try simp only [Act.put, List.getElem_toArray, List.getElem_cons_succ, List.getElem_cons_zero, List.setIfInBounds_toArray, List.set_cons_zero, List.set_cons_succ]
  refine wpAnyH_ready (rs := [9]) (by kernel_rfl) (by simp) ?_
  refine AllReadyH.cons rfl (fun K hK => ?_) AllReadyH.nil
  go_simp
  go_at_call 16
  with_reducible refine (icont_iv _ _ _ p q X false _ HR2.out ku_22 kv_22 x1_22.iu (x1_22.len sX1) HP.out.1 sp sq sX1).mono ?_
  rintro e w23 ⟨rfl, b23⟩
  have ku_23 := ku_22.below b23
  have kv_23 := kv_22.below b23
  have kx_23 := kx_22.below b23
  have ky_23 := ky_22.below b23
  have x1_23 := x1_22.below b23
  have ba_23 := ba_22.below b23 ba_22.lt
  have bb_23 := bb_22.below b23 bb_22.lt
  have bm_23 := bm_22.below b23 bm_22.lt
  have bp_23 := bp_22.below b23 bp_22.lt
  have F23 := below_then F22 (Nat.le_refl _) b23
  try dsimp only
  refine hK.out _ _ ?_ (fun hHeld => ?_)
  · (try dsimp only); exact ⟨ba_23.cell0, ba_23.cell1, ba_23.cell2, ba_23.cell3, ba_23.cell4, ba_23.cell5, bb_23.cell0, bb_23.cell1, bb_23.cell2, bb_23.cell3, bb_23.cell4, bb_23.cell5, bm_23.cell0, bm_23.cell1, bm_23.cell2, bm_23.cell3, bm_23.cell4, bm_23.cell5, bp_23.cell0, bp_23.cell1, bp_23.cell2⟩
  clear hK K
  try simp only [Act.put, List.getElem_toArray, List.getElem_cons_succ, List.getElem_cons_zero, List.setIfInBounds_toArray, List.set_cons_zero, List.set_cons_succ]
  refine wpAnyH_take (i := 10) (v := ?_) rfl (by kernel_rfl) (by kernel_rfl) (by kernel_rfl) (fun _ _ _ h => h) (Or.inl ⟨by rfl, ?_⟩) (by assumption) ?_
  rotate_left 1
  · (intro w9 hSw; (try dsimp only at hSw); go_simp; try with_reducible rfl)
  try simp only [Act.put, List.getElem_toArray, List.getElem_cons_succ, List.getElem_cons_zero, List.setIfInBounds_toArray, List.set_cons_zero, List.set_cons_succ]
  refine wpAnyH_take (i := 11) (v := undef) rfl (by kernel_rfl) (by kernel_rfl) (by kernel_rfl) (fun _ _ _ h => h) (Or.inr ⟨by rfl, rfl⟩) (by assumption) ?_
  try simp only [Act.put, List.getElem_toArray, List.getElem_cons_succ, List.getElem_cons_zero, List.setIfInBounds_toArray, List.set_cons_zero, List.set_cons_succ]
  refine wpAnyH_take (i := 12) (v := undef) rfl (by kernel_rfl) (by kernel_rfl) (by kernel_rfl) (fun _ _ _ h => h) (Or.inr ⟨by rfl, rfl⟩) (by assumption) ?_
  try simp only [Act.put, List.getElem_toArray, List.getElem_cons_succ, List.getElem_cons_zero, List.setIfInBounds_toArray, List.set_cons_zero, List.set_cons_succ]
  refine wpAnyH_take (i := 13) (v := undef) rfl (by kernel_rfl) (by kernel_rfl) (by kernel_rfl) (fun _ _ _ h => h) (Or.inr ⟨by rfl, rfl⟩) (by assumption) ?_
  try simp only [Act.put, List.getElem_toArray, List.getElem_cons_succ, List.getElem_cons_zero, List.setIfInBounds_toArray, List.set_cons_zero, List.set_cons_succ]
  refine wpAnyH_take (i := 14) (v := ?_) rfl (by kernel_rfl) (by kernel_rfl) (by kernel_rfl) (fun _ _ _ h => h) (Or.inl ⟨by rfl, ?_⟩) (by assumption) ?_
  rotate_left 1
  · (intro w9 hSw; (try dsimp only at hSw); go_simp; try with_reducible rfl)
  try simp only [Act.put, List.getElem_toArray, List.getElem_cons_succ, List.getElem_cons_zero, List.setIfInBounds_toArray, List.set_cons_zero, List.set_cons_succ]
  refine wpAnyH_take (i := 15) (v := ?_) rfl (by kernel_rfl) (by kernel_rfl) (by kernel_rfl) (fun _ _ _ h => h) (Or.inl ⟨by rfl, ?_⟩) (by assumption) ?_
  rotate_left 1
  · (intro w9 hSw; (try dsimp only at hSw); go_simp; try with_reducible rfl)
  try simp only [Act.put, List.getElem_toArray, List.getElem_cons_succ, List.getElem_cons_zero, List.setIfInBounds_toArray, List.set_cons_zero, List.set_cons_succ]
  refine wpAnyH_take (i := 16) (v := ?_) rfl (by kernel_rfl) (by kernel_rfl) (by kernel_rfl) (fun _ _ _ h => h) (Or.inl ⟨by rfl, ?_⟩) (by assumption) ?_
  rotate_left 1
  · (intro w9 hSw; (try dsimp only at hSw); go_simp; try with_reducible rfl)
  try simp only [Act.put, List.getElem_toArray, List.getElem_cons_succ, List.getElem_cons_zero, List.setIfInBounds_toArray, List.set_cons_zero, List.set_cons_succ]
  refine wpAnyH_done (by kernel_rfl) ?_ _
  all_goals go_wp2
  all_goals go_ret
  all_goals exact ⟨rfl, F23⟩
theorem law_ijoin (u v x y : Rv) (xs ys xs' ys' zs ws zs' ws' : List Nat) (o : Int) (w : World) (ho : 0 ≤ o ∧ o < 256) (hu : Rx w u xs ys) (hv : Rx w v xs' ys') (hx : Rx w x zs ws) (hy : Rx w y zs' ws') : Calls Try.prog 7 #[.agg #[.bool u.s, .slice u.A u.n u.c, .slice u.B u.m u.d, .bool v.s, .slice v.A v.n v.c, .slice v.B v.m v.d], .agg #[.bool x.s, .slice x.A x.n x.c, .slice x.B x.m x.d, .bool y.s, .slice y.A y.n y.c, .slice y.B y.m y.d], .int .u8 o] w (fun e w' => e = .returned (.bool true) ∧ Below w.heap.size w w') := by
  by_cases ha : (Lu 2 u ∧ Lu 2 v ∧ (isC u.s xs ys && isC v.s xs' ys' && decide (rv u.s xs ys ≤ rv v.s xs' ys')) = true)
  · by_cases hb : (Lu 2 x ∧ Lu 2 y ∧ (isC x.s zs ws && isC y.s zs' ws' && decide (rv x.s zs ws ≤ rv y.s zs' ws')) = true)
    · obtain ⟨p, q, ku, kv, hpq, sp2, sq2⟩ := vx_of hu hv ha.1 ha.2.1 ha.2.2
      obtain ⟨p', q', kx, ky, hpq', sp2', sq2'⟩ := vx_of hx hy hb.1 hb.2.1 hb.2.2
      obtain ⟨r, hr⟩ : ∃ r, (decide (p ≤ min p p' + ((o : Rat) / ((255 : Int) : Rat)) * (max q q' - min p p')) && decide (min p p' + ((o : Rat) / ((255 : Int) : Rat)) * (max q q' - min p p') ≤ q)) = r := ⟨_, rfl⟩
      by_cases hm : max p p' ≤ min q q'
      · cases r
        · exact jn_yf u v x y xs ys xs' ys' zs ws zs' ws' o p q p' q' w ho hu hv hx hy ha hb ku kv kx ky hpq hpq' sp2 sq2 sp2' sq2' hm hr
        · exact jn_yt u v x y xs ys xs' ys' zs ws zs' ws' o p q p' q' w ho hu hv hx hy ha hb ku kv kx ky hpq hpq' sp2 sq2 sp2' sq2' hm hr
      · cases r
        · exact jn_ef u v x y xs ys xs' ys' zs ws zs' ws' o p q p' q' w ho hu hv hx hy ha hb ku kv kx ky hpq hpq' sp2 sq2 sp2' sq2' hm hr
        · exact jn_et u v x y xs ys xs' ys' zs ws zs' ws' o p q p' q' w ho hu hv hx hy ha hb ku kv kx ky hpq hpq' sp2 sq2 sp2' sq2' hm hr
    · exact jn_n2 u v x y xs ys xs' ys' zs ws zs' ws' o w hu hv hx hy ha hb
  · exact jn_n1 u v x y xs ys xs' ys' zs ws zs' ws' o w hu hv hx hy ha
end Go.Proofs.Ytnddhohjfjlaiaa
