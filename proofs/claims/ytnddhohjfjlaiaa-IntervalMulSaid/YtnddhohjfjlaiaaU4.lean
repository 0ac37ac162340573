/-
  The walk of IntervalMul.
-/
import Derived.Test.YtnddhohjfjlaiaaU3
namespace Go.Proofs.Ytnddhohjfjlaiaa
open Go.RowKit
set_option linter.unusedVariables false
set_option linter.unusedSimpArgs false

theorem ml_n1 (u v x y : Rv) (xs ys xs' ys' zs ws zs' ws' : List Nat) (o : Int) (w : World) (hu : Rx w u xs ys) (hv : Rx w v xs' ys') (hx : Rx w x zs ws) (hy : Rx w y zs' ws') (hh : ¬ (Lu 2 u ∧ Lu 2 v ∧ (isC u.s xs ys && isC v.s xs' ys' && decide (rv u.s xs ys ≤ rv v.s xs' ys')) = true)) : Calls Try.prog 5 #[.agg #[.bool u.s, .slice u.A u.n u.c, .slice u.B u.m u.d, .bool v.s, .slice v.A v.n v.c, .slice v.B v.m v.d], .agg #[.bool x.s, .slice x.A x.n x.c, .slice x.B x.m x.d, .bool y.s, .slice y.A y.n y.c, .slice y.B y.m y.d], .int .u16 o] w (fun e w' => e = .returned (.bool true) ∧ Below w.heap.size w w') := by
  have HN := hide hh
  clear hh hx hy
  have hu_1 := hu.alloc (EV u v)
  have hv_1 := hv.alloc (EV u v)
  have ba_1 : Sv ((w).alloc (EV u v)) (w.heap.size) u v := by have h_ := Sv.new (w) u v; exact h_
  have F1 := (Below.refl w.heap.size w).alloc (Nat.le_refl _) (EV u v)
  have hu_2 := hu_1.alloc (EV x y)
  have hv_2 := hv_1.alloc (EV x y)
  have ba_2 := ba_1.alloc (EV x y)
  have bb_2 : Sv (((w).alloc (EV u v)).alloc (EV x y)) (w.heap.size + 1) x y := by have h_ := Sv.new ((w).alloc (EV u v)) x y; simp only [World.size_alloc] at h_; exact h_
  have F2 := F1.alloc F1.size (EV x y)
  go_enter Try.func5, Try.ntmps5
  have ba_u2 := ba_2.cell0
  have ba_v2 := ba_2.cell1
  have ba_w2 := ba_2.cell2
  have ba_x2 := ba_2.cell3
  have ba_y2 := ba_2.cell4
  have ba_z2 := ba_2.cell5
  have bb_u2 := bb_2.cell0
  have bb_v2 := bb_2.cell1
  have bb_w2 := bb_2.cell2
  have bb_x2 := bb_2.cell3
  have bb_y2 := bb_2.cell4
  have bb_z2 := bb_2.cell5
  go_wp2_with fail
  refine (awake6 _).mono ?_
  rintro e w3 ⟨rfl, b3⟩
  have hu_3 := hu_2.below b3
  have hv_3 := hv_2.below b3
  have ba_3 := ba_2.below b3 ba_2.lt
  have bb_3 := bb_2.below b3 bb_2.lt
  have F3 := below_then F2 (Nat.le_refl _) b3
  have ba_u3 := ba_3.cell0
  have ba_v3 := ba_3.cell1
  have ba_w3 := ba_3.cell2
  have ba_x3 := ba_3.cell3
  have ba_y3 := ba_3.cell4
  have ba_z3 := ba_3.cell5
  have bb_u3 := bb_3.cell0
  have bb_v3 := bb_3.cell1
  have bb_w3 := bb_3.cell2
  have bb_x3 := bb_3.cell3
  have bb_y3 := bb_3.cell4
  have bb_z3 := bb_3.cell5
  go_wp2_with fail
  refine (small_no _ _ xs ys xs' ys' _ hu_3 hv_3 HN.out).mono ?_
  rintro e w4 ⟨rfl, b4⟩
  have hu_4 := hu_3.below b4
  have hv_4 := hv_3.below b4
  have ba_4 := ba_3.below b4 ba_3.lt
  have bb_4 := bb_3.below b4 bb_3.lt
  have F4 := below_then F3 (Nat.le_refl _) b4
  have ba_u4 := ba_4.cell0
  have ba_v4 := ba_4.cell1
  have ba_w4 := ba_4.cell2
  have ba_x4 := ba_4.cell3
  have ba_y4 := ba_4.cell4
  have ba_z4 := ba_4.cell5
  have bb_u4 := bb_4.cell0
  have bb_v4 := bb_4.cell1
  have bb_w4 := bb_4.cell2
  have bb_x4 := bb_4.cell3
  have bb_y4 := bb_4.cell4
  have bb_z4 := bb_4.cell5
  go_wp2
  go_ret
  exact ⟨rfl, F4⟩
theorem ml_n2 (u v x y : Rv) (xs ys xs' ys' zs ws zs' ws' : List Nat) (o : Int) (w : World) (hu : Rx w u xs ys) (hv : Rx w v xs' ys') (hx : Rx w x zs ws) (hy : Rx w y zs' ws') (ha : (Lu 2 u ∧ Lu 2 v ∧ (isC u.s xs ys && isC v.s xs' ys' && decide (rv u.s xs ys ≤ rv v.s xs' ys')) = true)) (hh : ¬ (Lu 2 x ∧ Lu 2 y ∧ (isC x.s zs ws && isC y.s zs' ws' && decide (rv x.s zs ws ≤ rv y.s zs' ws')) = true)) : Calls Try.prog 5 #[.agg #[.bool u.s, .slice u.A u.n u.c, .slice u.B u.m u.d, .bool v.s, .slice v.A v.n v.c, .slice v.B v.m v.d], .agg #[.bool x.s, .slice x.A x.n x.c, .slice x.B x.m x.d, .bool y.s, .slice y.A y.n y.c, .slice y.B y.m y.d], .int .u16 o] w (fun e w' => e = .returned (.bool true) ∧ Below w.heap.size w w') := by
  have HN := hide hh
  have HA := hide ha
  clear hh ha
  have hu_1 := hu.alloc (EV u v)
  have hv_1 := hv.alloc (EV u v)
  have hx_1 := hx.alloc (EV u v)
  have hy_1 := hy.alloc (EV u v)
  have ba_1 : Sv ((w).alloc (EV u v)) (w.heap.size) u v := by have h_ := Sv.new (w) u v; exact h_
  have F1 := (Below.refl w.heap.size w).alloc (Nat.le_refl _) (EV u v)
  have hu_2 := hu_1.alloc (EV x y)
  have hv_2 := hv_1.alloc (EV x y)
  have hx_2 := hx_1.alloc (EV x y)
  have hy_2 := hy_1.alloc (EV x y)
  have ba_2 := ba_1.alloc (EV x y)
  have bb_2 : Sv (((w).alloc (EV u v)).alloc (EV x y)) (w.heap.size + 1) x y := by have h_ := Sv.new ((w).alloc (EV u v)) x y; simp only [World.size_alloc] at h_; exact h_
  have F2 := F1.alloc F1.size (EV x y)
  go_enter Try.func5, Try.ntmps5
  have ba_u2 := ba_2.cell0
  have ba_v2 := ba_2.cell1
  have ba_w2 := ba_2.cell2
  have ba_x2 := ba_2.cell3
  have ba_y2 := ba_2.cell4
  have ba_z2 := ba_2.cell5
  have bb_u2 := bb_2.cell0
  have bb_v2 := bb_2.cell1
  have bb_w2 := bb_2.cell2
  have bb_x2 := bb_2.cell3
  have bb_y2 := bb_2.cell4
  have bb_z2 := bb_2.cell5
  go_wp2_with fail
  refine (awake6 _).mono ?_
  rintro e w3 ⟨rfl, b3⟩
  have hu_3 := hu_2.below b3
  have hv_3 := hv_2.below b3
  have hx_3 := hx_2.below b3
  have hy_3 := hy_2.below b3
  have ba_3 := ba_2.below b3 ba_2.lt
  have bb_3 := bb_2.below b3 bb_2.lt
  have F3 := below_then F2 (Nat.le_refl _) b3
  have ba_u3 := ba_3.cell0
  have ba_v3 := ba_3.cell1
  have ba_w3 := ba_3.cell2
  have ba_x3 := ba_3.cell3
  have ba_y3 := ba_3.cell4
  have ba_z3 := ba_3.cell5
  have bb_u3 := bb_3.cell0
  have bb_v3 := bb_3.cell1
  have bb_w3 := bb_3.cell2
  have bb_x3 := bb_3.cell3
  have bb_y3 := bb_3.cell4
  have bb_z3 := bb_3.cell5
  go_wp2_with fail
  refine (small_v _ _ xs ys xs' ys' true _ HA.out.2.2 hu_3 hv_3 HA.out.1 HA.out.2.1).mono ?_
  rintro e w4 ⟨rfl, b4⟩
  have hu_4 := hu_3.below b4
  have hv_4 := hv_3.below b4
  have hx_4 := hx_3.below b4
  have hy_4 := hy_3.below b4
  have ba_4 := ba_3.below b4 ba_3.lt
  have bb_4 := bb_3.below b4 bb_3.lt
  have F4 := below_then F3 (Nat.le_refl _) b4
  have ba_u4 := ba_4.cell0
  have ba_v4 := ba_4.cell1
  have ba_w4 := ba_4.cell2
  have ba_x4 := ba_4.cell3
  have ba_y4 := ba_4.cell4
  have ba_z4 := ba_4.cell5
  have bb_u4 := bb_4.cell0
  have bb_v4 := bb_4.cell1
  have bb_w4 := bb_4.cell2
  have bb_x4 := bb_4.cell3
  have bb_y4 := bb_4.cell4
  have bb_z4 := bb_4.cell5
  go_wp2_with fail
  refine (small_no _ _ zs ws zs' ws' _ hx_4 hy_4 HN.out).mono ?_
  rintro e w5 ⟨rfl, b5⟩
  have hx_5 := hx_4.below b5
  have hy_5 := hy_4.below b5
  have ba_5 := ba_4.below b5 ba_4.lt
  have bb_5 := bb_4.below b5 bb_4.lt
  have F5 := below_then F4 (Nat.le_refl _) b5
  have ba_u5 := ba_5.cell0
  have ba_v5 := ba_5.cell1
  have ba_w5 := ba_5.cell2
  have ba_x5 := ba_5.cell3
  have ba_y5 := ba_5.cell4
  have ba_z5 := ba_5.cell5
  have bb_u5 := bb_5.cell0
  have bb_v5 := bb_5.cell1
  have bb_w5 := bb_5.cell2
  have bb_x5 := bb_5.cell3
  have bb_y5 := bb_5.cell4
  have bb_z5 := bb_5.cell5
  go_wp2
  go_ret
  exact ⟨rfl, F5⟩
set_option maxRecDepth 50000 in
set_option maxHeartbeats 8000000 in
theorem ml_yes (u v x y : Rv) (xs ys xs' ys' zs ws zs' ws' : List Nat) (o : Int) (w : World) (ho : 0 ≤ o ∧ o < 65536) (hu : Rx w u xs ys) (hv : Rx w v xs' ys') (hx : Rx w x zs ws) (hy : Rx w y zs' ws') (ha : (Lu 2 u ∧ Lu 2 v ∧ (isC u.s xs ys && isC v.s xs' ys' && decide (rv u.s xs ys ≤ rv v.s xs' ys')) = true)) (hb : (Lu 2 x ∧ Lu 2 y ∧ (isC x.s zs ws && isC y.s zs' ws' && decide (rv x.s zs ws ≤ rv y.s zs' ws')) = true)) : Calls Try.prog 5 #[.agg #[.bool u.s, .slice u.A u.n u.c, .slice u.B u.m u.d, .bool v.s, .slice v.A v.n v.c, .slice v.B v.m v.d], .agg #[.bool x.s, .slice x.A x.n x.c, .slice x.B x.m x.d, .bool y.s, .slice y.A y.n y.c, .slice y.B y.m y.d], .int .u16 o] w (fun e w' => e = .returned (.bool true) ∧ Below w.heap.size w w') := by
  obtain ⟨p, q, ku, kv, hpq, sp2, sq2⟩ := vx_of hu hv ha.1 ha.2.1 ha.2.2
  obtain ⟨p', q', kx, ky, hpq', sp2', sq2'⟩ := vx_of hx hy hb.1 hb.2.1 hb.2.2
  have HA := hide ha
  have HB := hide hb
  have sp := sp2.m (show 2 ≤ 100 by decide)
  have sq := sq2.m (show 2 ≤ 100 by decide)
  have sp' := sp2'.m (show 2 ≤ 100 by decide)
  have sq' := sq2'.m (show 2 ≤ 100 by decide)
  have la := (ku.len sp2).mono (show 2 ≤ 4000 by decide)
  have lc := (kv.len sq2).mono (show 2 ≤ 4000 by decide)
  have lx := (kx.len sp2').mono (show 2 ≤ 4000 by decide)
  have ly := (ky.len sq2').mono (show 2 ≤ 4000 by decide)
  have k1_ : 0 ≤ o % 256 ∧ o % 256 < 256 := by omega
  have k2_ : 0 ≤ o / 256 ∧ o / 256 < 256 := by omega
  obtain ⟨X, hX⟩ : ∃ X, p + (((o % 256 : Int) : Rat) / ((255 : Int) : Rat)) * (q - p) = X := ⟨_, rfl⟩
  obtain ⟨Y, hY⟩ : ∃ Y, p' + (((o / 256 : Int) : Rat) / ((255 : Int) : Rat)) * (q' - p') = Y := ⟨_, rfl⟩
  have iX := at_in hpq k1_ hX
  have iY := at_in hpq' k2_ hY
  have sX := at_size k1_ sp2 sq2 hX
  have sY := at_size k2_ sp2' sq2' hY
  have sXY : Qs 18 (X * Y) := size_mul sX sY
  have t1 : Qs 4 (p * p') := size_mul sp2 sp2'
  have t2 : Qs 4 (q * p') := size_mul sq2 sp2'
  have t3 : Qs 4 (p * q') := size_mul sp2 sq2'
  have t4 : Qs 4 (q * q') := size_mul sq2 sq2'
  have c1 := mul_in iX.1 iX.2 iY.1 iY.2
  obtain ⟨A1, hA1⟩ : ∃ z, min (min (p * p') (q * p')) (min (p * q') (q * q')) = z := ⟨_, rfl⟩
  obtain ⟨B1, hB1⟩ : ∃ z, max (max (p * p') (q * p')) (max (p * q') (q * q')) = z := ⟨_, rfl⟩
  have sA1 : Qs 4 A1 := by rw [← hA1]; exact qs_min (qs_min t1 t2) (qs_min t3 t4)
  have sB1 : Qs 4 B1 := by rw [← hB1]; exact qs_max (qs_max t1 t2) (qs_max t3 t4)
  rw [hA1, hB1] at c1
  have z1 : Qs 2 (0 : Rat) := qs_lit2 (by decide +kernel)
  obtain ⟨A2, hA2⟩ : ∃ z, max p 0 = z := ⟨_, rfl⟩
  obtain ⟨B2, hB2⟩ : ∃ z, max q 0 = z := ⟨_, rfl⟩
  have sA2 : Qs 2 A2 := by rw [← hA2]; exact qs_max sp2 z1
  have sB2 : Qs 2 B2 := by rw [← hB2]; exact qs_max sq2 z1
  have sM : Qs 9 (max X 0) := qs_max sX (z1.m (by decide))
  have c2 : A2 ≤ max X 0 ∧ max X 0 ≤ B2 := by
    rw [← hA2, ← hB2]
    exact ⟨mx_mono iX.1, mx_mono iX.2⟩
  have l12 : A1 ≤ B1 := Rat.le_trans c1.1 c1.2
  have l22 : A2 ≤ B2 := Rat.le_trans c2.1 c2.2
  have HA1 := hide hA1
  have HB1 := hide hB1
  have HA2 := hide hA2
  have HB2 := hide hB2
  have HX := hide hX
  have HY := hide hY
  have HC1 := hide (show (decide (A1 ≤ X * Y) && decide (X * Y ≤ B1)) = true by rw [decide_eq_true c1.1, decide_eq_true c1.2]; rfl)
  have HC2 := hide (show (decide (A2 ≤ max X 0) && decide (max X 0 ≤ B2)) = true by rw [decide_eq_true c2.1, decide_eq_true c2.2]; rfl)
  have HL := hide (And.intro l12 l22)
  have HP := hide (And.intro hpq hpq')
  have HK1 := hide k1_
  have HK2 := hide k2_
  have w1 : IntKind.u8.wrap o = o % 256 := by rfl
  have w2 : IntKind.u8.wrap (o / 256) = o / 256 := by (first | go_num | (simp [IntKind.wrap, IntKind.bits, IntKind.signed]; omega))
  have ho1 := ho.1
  have ho2 := ho.2
  have p9 := sp2.m (show 2 ≤ 9 by decide)
  have q9 := sq2.m (show 2 ≤ 9 by decide)
  have p9' := sp2'.m (show 2 ≤ 9 by decide)
  have q9' := sq2'.m (show 2 ≤ 9 by decide)
  have sA4 := sA1.m (show 4 ≤ 100 by decide)
  have sB4 := sB1.m (show 4 ≤ 100 by decide)
  have sA5 := sA2.m (show 2 ≤ 100 by decide)
  have sB5 := sB2.m (show 2 ≤ 100 by decide)
  have sXY5 := sXY.m (show 18 ≤ 100 by decide)
  have sM5 := sM.m (show 9 ≤ 100 by decide)
  have k4 : 100 ≤ 4000 := by decide
  have k49 : 9 ≤ 4000 := by decide
  have k2 : 2 ≤ 4000 := by decide
  clear ha hb hpq hpq' hX hY hA1 hB1 hA2 hB2 c1 c2 l12 l22 iX iY t1 t2 t3 t4 ho k1_ k2_ sA1 sB1 sA2 sB2 sXY sM sp2 sq2 sp2' sq2'
  have hu_1 := hu.alloc (EV u v)
  have hv_1 := hv.alloc (EV u v)
  have hx_1 := hx.alloc (EV u v)
  have hy_1 := hy.alloc (EV u v)
  have ku_1 := ku.alloc (EV u v)
  have kv_1 := kv.alloc (EV u v)
  have kx_1 := kx.alloc (EV u v)
  have ky_1 := ky.alloc (EV u v)
  have ba_1 : Sv ((w).alloc (EV u v)) (w.heap.size) u v := by have h_ := Sv.new (w) u v; exact h_
  have F1 := (Below.refl w.heap.size w).alloc (Nat.le_refl _) (EV u v)
  have hu_2 := hu_1.alloc (EV x y)
  have hv_2 := hv_1.alloc (EV x y)
  have hx_2 := hx_1.alloc (EV x y)
  have hy_2 := hy_1.alloc (EV x y)
  have ku_2 := ku_1.alloc (EV x y)
  have kv_2 := kv_1.alloc (EV x y)
  have kx_2 := kx_1.alloc (EV x y)
  have ky_2 := ky_1.alloc (EV x y)
  have ba_2 := ba_1.alloc (EV x y)
  have bb_2 : Sv (((w).alloc (EV u v)).alloc (EV x y)) (w.heap.size + 1) x y := by have h_ := Sv.new ((w).alloc (EV u v)) x y; simp only [World.size_alloc] at h_; exact h_
  have F2 := F1.alloc F1.size (EV x y)
  go_enter Try.func5, Try.ntmps5
  have ba_u2 := ba_2.cell0
  have ba_v2 := ba_2.cell1
  have ba_w2 := ba_2.cell2
  have ba_x2 := ba_2.cell3
  have ba_y2 := ba_2.cell4
  have ba_z2 := ba_2.cell5
  have bb_u2 := bb_2.cell0
  have bb_v2 := bb_2.cell1
  have bb_w2 := bb_2.cell2
  have bb_x2 := bb_2.cell3
  have bb_y2 := bb_2.cell4
  have bb_z2 := bb_2.cell5
  go_wp2_with fail
  refine (awake6 _).mono ?_
  rintro e w3 ⟨rfl, b3⟩
  have hu_3 := hu_2.below b3
  have hv_3 := hv_2.below b3
  have hx_3 := hx_2.below b3
  have hy_3 := hy_2.below b3
  have ku_3 := ku_2.below b3
  have kv_3 := kv_2.below b3
  have kx_3 := kx_2.below b3
  have ky_3 := ky_2.below b3
  have ba_3 := ba_2.below b3 ba_2.lt
  have bb_3 := bb_2.below b3 bb_2.lt
  have F3 := below_then F2 (Nat.le_refl _) b3
  have ba_u3 := ba_3.cell0
  have ba_v3 := ba_3.cell1
  have ba_w3 := ba_3.cell2
  have ba_x3 := ba_3.cell3
  have ba_y3 := ba_3.cell4
  have ba_z3 := ba_3.cell5
  have bb_u3 := bb_3.cell0
  have bb_v3 := bb_3.cell1
  have bb_w3 := bb_3.cell2
  have bb_x3 := bb_3.cell3
  have bb_y3 := bb_3.cell4
  have bb_z3 := bb_3.cell5
  go_wp2_with fail
  refine (small_v _ _ xs ys xs' ys' true _ HA.out.2.2 hu_3 hv_3 HA.out.1 HA.out.2.1).mono ?_
  rintro e w4 ⟨rfl, b4⟩
  have hu_4 := hu_3.below b4
  have hv_4 := hv_3.below b4
  have hx_4 := hx_3.below b4
  have hy_4 := hy_3.below b4
  have ku_4 := ku_3.below b4
  have kv_4 := kv_3.below b4
  have kx_4 := kx_3.below b4
  have ky_4 := ky_3.below b4
  have ba_4 := ba_3.below b4 ba_3.lt
  have bb_4 := bb_3.below b4 bb_3.lt
  have F4 := below_then F3 (Nat.le_refl _) b4
  have ba_u4 := ba_4.cell0
  have ba_v4 := ba_4.cell1
  have ba_w4 := ba_4.cell2
  have ba_x4 := ba_4.cell3
  have ba_y4 := ba_4.cell4
  have ba_z4 := ba_4.cell5
  have bb_u4 := bb_4.cell0
  have bb_v4 := bb_4.cell1
  have bb_w4 := bb_4.cell2
  have bb_x4 := bb_4.cell3
  have bb_y4 := bb_4.cell4
  have bb_z4 := bb_4.cell5
  go_wp2_with fail
  refine (small_v _ _ zs ws zs' ws' true _ HB.out.2.2 hx_4 hy_4 HB.out.1 HB.out.2.1).mono ?_
  rintro e w5 ⟨rfl, b5⟩
  have hx_5 := hx_4.below b5
  have hy_5 := hy_4.below b5
  have ku_5 := ku_4.below b5
  have kv_5 := kv_4.below b5
  have kx_5 := kx_4.below b5
  have ky_5 := ky_4.below b5
  have ba_5 := ba_4.below b5 ba_4.lt
  have bb_5 := bb_4.below b5 bb_4.lt
  have F5 := below_then F4 (Nat.le_refl _) b5
  have ba_u5 := ba_5.cell0
  have ba_v5 := ba_5.cell1
  have ba_w5 := ba_5.cell2
  have ba_x5 := ba_5.cell3
  have ba_y5 := ba_5.cell4
  have ba_z5 := ba_5.cell5
  have bb_u5 := bb_5.cell0
  have bb_v5 := bb_5.cell1
  have bb_w5 := bb_5.cell2
  have bb_x5 := bb_5.cell3
  have bb_y5 := bb_5.cell4
  have bb_z5 := bb_5.cell5
  go_upto_region 5 with fail
  go_cut [7, 8] (fun sx sy wy => ∃ (Wqx : World) (gqx gqy : Nat) (qxu qxv qyu qyv : Rv), Wqx = wy ∧ sx = .pointer (some ⟨gqx, 0, none⟩) ∧ sy = .pointer (some ⟨gqy, 0, none⟩) ∧ S6 Wqx gqx (.bool qxu.s) (.slice qxu.A qxu.n qxu.c) (.slice qxu.B qxu.m qxu.d) (.bool qxv.s) (.slice qxv.A qxv.n qxv.c) (.slice qxv.B qxv.m qxv.d) ∧ S6 Wqx gqy (.bool qyu.s) (.slice qyu.A qyu.n qyu.c) (.slice qyu.B qyu.m qyu.d) (.bool qyv.s) (.slice qyv.A qyv.n qyv.c) (.slice qyv.B qyv.m qyv.d) ∧ w.heap.size ≠ gqx ∧ w.heap.size ≠ gqy ∧ w.heap.size + 1 ≠ gqx ∧ w.heap.size + 1 ≠ gqy ∧ Sv Wqx (w.heap.size) u v ∧ Sv Wqx (w.heap.size + 1) x y ∧ Cu Wqx u p ∧ Cu Wqx v q ∧ Cu Wqx x p' ∧ Cu Wqx y q' ∧ Cu Wqx qxu A1 ∧ Cu Wqx qxv B1 ∧ Cu Wqx qyu A2 ∧ Cu Wqx qyv B2 ∧ Below w.heap.size w Wqx)
  case first =>
    have ltq_ba := ba_5.lt
    have ltq_bb := bb_5.lt
    have glq := F5.size
    have nq1_ : w.heap.size ≠ w5.heap.size := by omega
    have nq2_ := Ne.symm nq1_
    have nq3_ : w.heap.size ≠ w5.heap.size + 1 := by omega
    have nq4_ := Ne.symm nq3_
    have ku_6 := ku_5.drew
    have kv_6 := kv_5.drew
    have kx_6 := kx_5.drew
    have ky_6 := ky_5.drew
    have ba_6 := ba_5.drew
    have bb_6 := bb_5.drew
    have F6 := F5.drew
    have ku_y1 := ku_5.alloc EV0
    have kv_y1 := kv_5.alloc EV0
    have kx_y1 := kx_5.alloc EV0
    have ky_y1 := ky_5.alloc EV0
    have ba_y1 := ba_5.alloc EV0
    have bb_y1 := bb_5.alloc EV0
    have zq1 : S6 ((w5).alloc EV0) (w5.heap.size) (.bool false) (.slice none 0 0) (.slice none 0 0) (.bool false) (.slice none 0 0) (.slice none 0 0) := by have h_ := S6.new (w5) (.bool false) (.slice none 0 0) (.slice none 0 0) (.bool false) (.slice none 0 0) (.slice none 0 0); exact h_
    have F_y1 := F5.alloc F5.size EV0
    have ku_d1 := ku_y1.drew
    have kv_d1 := kv_y1.drew
    have kx_d1 := kx_y1.drew
    have ky_d1 := ky_y1.drew
    have ba_d1 := ba_y1.drew
    have bb_d1 := bb_y1.drew
    have z1_d1 := zq1.drew
    have F_d1 := F_y1.drew
    have ku_y2 := ku_y1.alloc EV0
    have kv_y2 := kv_y1.alloc EV0
    have kx_y2 := kx_y1.alloc EV0
    have ky_y2 := ky_y1.alloc EV0
    have ba_y2 := ba_y1.alloc EV0
    have bb_y2 := bb_y1.alloc EV0
    have zq12 := zq1.alloc EV0
    have zq2 : S6 (((w5).alloc EV0).alloc EV0) (w5.heap.size + 1) (.bool false) (.slice none 0 0) (.slice none 0 0) (.bool false) (.slice none 0 0) (.slice none 0 0) := by have h_ := S6.new ((w5).alloc EV0) (.bool false) (.slice none 0 0) (.slice none 0 0) (.bool false) (.slice none 0 0) (.slice none 0 0); simp only [World.size_alloc] at h_; exact h_
    have F_y2 := F_y1.alloc F_y1.size EV0
    have ku_d2 := ku_y2.drew
    have kv_d2 := kv_y2.drew
    have kx_d2 := kx_y2.drew
    have ky_d2 := ky_y2.drew
    have ba_d2 := ba_y2.drew
    have bb_d2 := bb_y2.drew
    have z1_d2 := zq12.drew
    have z2_d2 := zq2.drew
    have F_d2 := F_y2.drew
    have lz1_ba := Nat.ne_of_lt ba_5.lt
    have ly1_ba := Ne.symm lz1_ba
    have lz1_bb := Nat.ne_of_lt bb_5.lt
    have ly1_bb := Ne.symm lz1_bb
    have lz2_ba : w.heap.size ≠ w5.heap.size + 1 := by omega
    have ly2_ba := Ne.symm lz2_ba
    have lz2_bb : w.heap.size + 1 ≠ w5.heap.size + 1 := by omega
    have ly2_bb := Ne.symm lz2_bb
    have gl1 : w.heap.size ≤ w5.heap.size := by have := F5.size; omega
    have gl2 : w.heap.size ≤ w5.heap.size + 1 := by have := F5.size; omega
    have lzz1_2 : w5.heap.size ≠ w5.heap.size + 1 := by omega
    have lyy1_2 := Ne.symm lzz1_2
    go_region_held3 (fun w' => w'.cell? ⟨w.heap.size, 0, none⟩ = some (.bool u.s) ∧ w'.cell? ⟨w.heap.size, 1, none⟩ = some (.slice u.A u.n u.c) ∧ w'.cell? ⟨w.heap.size, 2, none⟩ = some (.slice u.B u.m u.d) ∧ w'.cell? ⟨w.heap.size, 3, none⟩ = some (.bool v.s) ∧ w'.cell? ⟨w.heap.size, 4, none⟩ = some (.slice v.A v.n v.c) ∧ w'.cell? ⟨w.heap.size, 5, none⟩ = some (.slice v.B v.m v.d) ∧ w'.cell? ⟨w.heap.size + 1, 0, none⟩ = some (.bool x.s) ∧ w'.cell? ⟨w.heap.size + 1, 1, none⟩ = some (.slice x.A x.n x.c) ∧ w'.cell? ⟨w.heap.size + 1, 2, none⟩ = some (.slice x.B x.m x.d) ∧ w'.cell? ⟨w.heap.size + 1, 3, none⟩ = some (.bool y.s) ∧ w'.cell? ⟨w.heap.size + 1, 4, none⟩ = some (.slice y.A y.n y.c) ∧ w'.cell? ⟨w.heap.size + 1, 5, none⟩ = some (.slice y.B y.m y.d))
      (first
        | with_reducible exact ⟨((ba_8.alloc EV0).alloc EV0).cell0, ((ba_8.alloc EV0).alloc EV0).cell1, ((ba_8.alloc EV0).alloc EV0).cell2, ((ba_8.alloc EV0).alloc EV0).cell3, ((ba_8.alloc EV0).alloc EV0).cell4, ((ba_8.alloc EV0).alloc EV0).cell5, ((bb_8.alloc EV0).alloc EV0).cell0, ((bb_8.alloc EV0).alloc EV0).cell1, ((bb_8.alloc EV0).alloc EV0).cell2, ((bb_8.alloc EV0).alloc EV0).cell3, ((bb_8.alloc EV0).alloc EV0).cell4, ((bb_8.alloc EV0).alloc EV0).cell5⟩
        | with_reducible exact ⟨(ba_8.alloc EV0).cell0, (ba_8.alloc EV0).cell1, (ba_8.alloc EV0).cell2, (ba_8.alloc EV0).cell3, (ba_8.alloc EV0).cell4, (ba_8.alloc EV0).cell5, (bb_8.alloc EV0).cell0, (bb_8.alloc EV0).cell1, (bb_8.alloc EV0).cell2, (bb_8.alloc EV0).cell3, (bb_8.alloc EV0).cell4, (bb_8.alloc EV0).cell5⟩
        | with_reducible exact ⟨ba_8.cell0, ba_8.cell1, ba_8.cell2, ba_8.cell3, ba_8.cell4, ba_8.cell5, bb_8.cell0, bb_8.cell1, bb_8.cell2, bb_8.cell3, bb_8.cell4, bb_8.cell5⟩
        | with_reducible exact ⟨((ba_7.alloc EV0).alloc EV0).cell0, ((ba_7.alloc EV0).alloc EV0).cell1, ((ba_7.alloc EV0).alloc EV0).cell2, ((ba_7.alloc EV0).alloc EV0).cell3, ((ba_7.alloc EV0).alloc EV0).cell4, ((ba_7.alloc EV0).alloc EV0).cell5, ((bb_7.alloc EV0).alloc EV0).cell0, ((bb_7.alloc EV0).alloc EV0).cell1, ((bb_7.alloc EV0).alloc EV0).cell2, ((bb_7.alloc EV0).alloc EV0).cell3, ((bb_7.alloc EV0).alloc EV0).cell4, ((bb_7.alloc EV0).alloc EV0).cell5⟩
        | with_reducible exact ⟨(ba_7.alloc EV0).cell0, (ba_7.alloc EV0).cell1, (ba_7.alloc EV0).cell2, (ba_7.alloc EV0).cell3, (ba_7.alloc EV0).cell4, (ba_7.alloc EV0).cell5, (bb_7.alloc EV0).cell0, (bb_7.alloc EV0).cell1, (bb_7.alloc EV0).cell2, (bb_7.alloc EV0).cell3, (bb_7.alloc EV0).cell4, (bb_7.alloc EV0).cell5⟩
        | with_reducible exact ⟨ba_7.cell0, ba_7.cell1, ba_7.cell2, ba_7.cell3, ba_7.cell4, ba_7.cell5, bb_7.cell0, bb_7.cell1, bb_7.cell2, bb_7.cell3, bb_7.cell4, bb_7.cell5⟩
        | with_reducible exact ⟨ba_d2.cell0, ba_d2.cell1, ba_d2.cell2, ba_d2.cell3, ba_d2.cell4, ba_d2.cell5, bb_d2.cell0, bb_d2.cell1, bb_d2.cell2, bb_d2.cell3, bb_d2.cell4, bb_d2.cell5⟩
        | with_reducible exact ⟨ba_d1.cell0, ba_d1.cell1, ba_d1.cell2, ba_d1.cell3, ba_d1.cell4, ba_d1.cell5, bb_d1.cell0, bb_d1.cell1, bb_d1.cell2, bb_d1.cell3, bb_d1.cell4, bb_d1.cell5⟩
        | with_reducible exact ⟨ba_6.cell0, ba_6.cell1, ba_6.cell2, ba_6.cell3, ba_6.cell4, ba_6.cell5, bb_6.cell0, bb_6.cell1, bb_6.cell2, bb_6.cell3, bb_6.cell4, bb_6.cell5⟩
        | go_keep
        | fail)
      (first
        | (go_at_call 29; (with_reducible refine (imul_e _ _ _ _ p q p' q' A1 B1 _ HA1.out HB1.out ku_6 kv_6 kx_6 ky_6 HP.out.1 HP.out.2 sp sq sp' sq').mono ?_); rintro e w7 ⟨u7, v7, rfl, m1, m2, b7⟩; have ku_7 := ku_6.below b7; have kv_7 := kv_6.below b7; have kx_7 := kx_6.below b7; have ky_7 := ky_6.below b7; have ba_7 := ba_6.below b7 ba_6.lt; have bb_7 := bb_6.below b7 bb_6.lt; have F7 := below_then F6 (Nat.le_refl _) b7)
        | (go_at_call 29; (with_reducible refine (imul_e _ _ _ _ p q p' q' A1 B1 _ HA1.out HB1.out ku_d1 kv_d1 kx_d1 ky_d1 HP.out.1 HP.out.2 sp sq sp' sq').mono ?_); rintro e w7 ⟨u7, v7, rfl, m1, m2, b7⟩; have ku_7 := ku_d1.below b7; have kv_7 := kv_d1.below b7; have kx_7 := kx_d1.below b7; have ky_7 := ky_d1.below b7; have ba_7 := ba_d1.below b7 ba_d1.lt; have bb_7 := bb_d1.below b7 bb_d1.lt; have z1_7 := z1_d1.below b7 z1_d1.lt; have F7 := below_then F_d1 (Nat.le_refl _) b7)
        | (go_at_call 29; (with_reducible refine (imul_e _ _ _ _ p q p' q' A1 B1 _ HA1.out HB1.out ku_d2 kv_d2 kx_d2 ky_d2 HP.out.1 HP.out.2 sp sq sp' sq').mono ?_); rintro e w7 ⟨u7, v7, rfl, m1, m2, b7⟩; have ku_7 := ku_d2.below b7; have kv_7 := kv_d2.below b7; have kx_7 := kx_d2.below b7; have ky_7 := ky_d2.below b7; have ba_7 := ba_d2.below b7 ba_d2.lt; have bb_7 := bb_d2.below b7 bb_d2.lt; have z1_7 := z1_d2.below b7 z1_d2.lt; have z2_7 := z2_d2.below b7 z2_d2.lt; have F7 := below_then F_d2 (Nat.le_refl _) b7)
        | (go_at_call 30; (with_reducible refine (irelu_e _ _ p q A2 B2 _ HA2.out HB2.out ku_7 kv_7 HP.out.1 sp sq).mono ?_); rintro e w8 ⟨u8, v8, rfl, r1, r2, b8⟩; have ku_8 := ku_7.below b8; have kv_8 := kv_7.below b8; have kx_8 := kx_7.below b8; have ky_8 := ky_7.below b8; have m1_8 := m1.below b8; have m2_8 := m2.below b8; have ba_8 := ba_7.below b8 ba_7.lt; have bb_8 := bb_7.below b8 bb_7.lt; have z1_8 := z1_7.below b8 z1_7.lt; have z2_8 := z2_7.below b8 z2_7.lt; have zk0_0 := z1_8.cell0; have zf0_0 := z1_8.frozen 0; have zk0_1 := z1_8.cell1; have zf0_1 := z1_8.frozen 1; have zk0_2 := z1_8.cell2; have zf0_2 := z1_8.frozen 2; have zk0_3 := z1_8.cell3; have zf0_3 := z1_8.frozen 3; have zk0_4 := z1_8.cell4; have zf0_4 := z1_8.frozen 4; have zk0_5 := z1_8.cell5; have zf0_5 := z1_8.frozen 5; have zk1_0 := z2_8.cell0; have zf1_0 := z2_8.frozen 0; have zk1_1 := z2_8.cell1; have zf1_1 := z2_8.frozen 1; have zk1_2 := z2_8.cell2; have zf1_2 := z2_8.frozen 2; have zk1_3 := z2_8.cell3; have zf1_3 := z2_8.frozen 3; have zk1_4 := z2_8.cell4; have zf1_4 := z2_8.frozen 4; have zk1_5 := z2_8.cell5; have zf1_5 := z2_8.frozen 5; have F8 := below_then F7 (Nat.le_refl _) b8; have kl_ba := ba_8.lt; have km_ba := Nat.ne_of_lt ba_8.lt; have kn_ba := Nat.ne_of_gt ba_8.lt; have kc_ba0 := ba_8.cell0; have kc_ba1 := ba_8.cell1; have kc_ba2 := ba_8.cell2; have kc_ba3 := ba_8.cell3; have kc_ba4 := ba_8.cell4; have kc_ba5 := ba_8.cell5; have kl_bb := bb_8.lt; have km_bb := Nat.ne_of_lt bb_8.lt; have kn_bb := Nat.ne_of_gt bb_8.lt; have kc_bb0 := bb_8.cell0; have kc_bb1 := bb_8.cell1; have kc_bb2 := bb_8.cell2; have kc_bb3 := bb_8.cell3; have kc_bb4 := bb_8.cell4; have kc_bb5 := bb_8.cell5; have kl0 := z1_8.lt; have km0 := Nat.ne_of_lt z1_8.lt; have kn0 := Nat.ne_of_gt z1_8.lt; have kl1 := z2_8.lt; have km1 := Nat.ne_of_lt z2_8.lt; have kn1 := Nat.ne_of_gt z2_8.lt)
        | (go_at_call 30; (with_reducible refine (irelu_e _ _ p q A2 B2 _ HA2.out HB2.out ku_7 kv_7 HP.out.1 sp sq).mono ?_); rintro e w8 ⟨u8, v8, rfl, r1, r2, b8⟩; have ku_8 := ku_7.below b8; have kv_8 := kv_7.below b8; have kx_8 := kx_7.below b8; have ky_8 := ky_7.below b8; have m1_8 := m1.below b8; have m2_8 := m2.below b8; have ba_8 := ba_7.below b8 ba_7.lt; have bb_8 := bb_7.below b8 bb_7.lt; have z1_8 := z1_7.below b8 z1_7.lt; have zk0_0 := z1_8.cell0; have zf0_0 := z1_8.frozen 0; have zk0_1 := z1_8.cell1; have zf0_1 := z1_8.frozen 1; have zk0_2 := z1_8.cell2; have zf0_2 := z1_8.frozen 2; have zk0_3 := z1_8.cell3; have zf0_3 := z1_8.frozen 3; have zk0_4 := z1_8.cell4; have zf0_4 := z1_8.frozen 4; have zk0_5 := z1_8.cell5; have zf0_5 := z1_8.frozen 5; have F8 := below_then F7 (Nat.le_refl _) b8; have kl_ba := ba_8.lt; have km_ba := Nat.ne_of_lt ba_8.lt; have kn_ba := Nat.ne_of_gt ba_8.lt; have kc_ba0 := ba_8.cell0; have kc_ba1 := ba_8.cell1; have kc_ba2 := ba_8.cell2; have kc_ba3 := ba_8.cell3; have kc_ba4 := ba_8.cell4; have kc_ba5 := ba_8.cell5; have kl_bb := bb_8.lt; have km_bb := Nat.ne_of_lt bb_8.lt; have kn_bb := Nat.ne_of_gt bb_8.lt; have kc_bb0 := bb_8.cell0; have kc_bb1 := bb_8.cell1; have kc_bb2 := bb_8.cell2; have kc_bb3 := bb_8.cell3; have kc_bb4 := bb_8.cell4; have kc_bb5 := bb_8.cell5; have kl0 := z1_8.lt; have km0 := Nat.ne_of_lt z1_8.lt; have kn0 := Nat.ne_of_gt z1_8.lt)
        | (have qx_ba := ba_7.lt; have qx_bb := bb_7.lt; have qz_z1_7 := z1_7.lt; have lz2_ba : w.heap.size ≠ w7.heap.size := (by omega); have ly2_ba := Ne.symm lz2_ba; have lz2_bb : w.heap.size + 1 ≠ w7.heap.size := (by omega); have ly2_bb := Ne.symm lz2_bb; have gl2 : w.heap.size ≤ w7.heap.size := (by have := F7.size; omega); have lzz1_2 := Nat.ne_of_lt (Nat.lt_of_lt_of_le qz_z1_7 (show w7.heap.size ≤ w7.heap.size by omega)); have lyy1_2 := Ne.symm lzz1_2; have ku_7a := ku_7.alloc EV0; have kv_7a := kv_7.alloc EV0; have kx_7a := kx_7.alloc EV0; have ky_7a := ky_7.alloc EV0; have m1_7a := m1.alloc EV0; have m2_7a := m2.alloc EV0; have ba_7a := ba_7.alloc EV0; have bb_7a := bb_7.alloc EV0; have z1_7a := z1_7.alloc EV0; have z2_7a : S6 ((w7).alloc EV0) (w7.heap.size) (.bool false) (.slice none 0 0) (.slice none 0 0) (.bool false) (.slice none 0 0) (.slice none 0 0) := (by (have h_ := S6.new (w7) (.bool false) (.slice none 0 0) (.slice none 0 0) (.bool false) (.slice none 0 0) (.slice none 0 0); exact h_)); have F_7a := F7.alloc F7.size EV0; go_at_call 30; (with_reducible refine (irelu_e _ _ p q A2 B2 _ HA2.out HB2.out ku_7a kv_7a HP.out.1 sp sq).mono ?_); rintro e w8 ⟨u8, v8, rfl, r1, r2, b8⟩; have ku_8 := ku_7a.below b8; have kv_8 := kv_7a.below b8; have kx_8 := kx_7a.below b8; have ky_8 := ky_7a.below b8; have m1_8 := m1_7a.below b8; have m2_8 := m2_7a.below b8; have ba_8 := ba_7a.below b8 ba_7a.lt; have bb_8 := bb_7a.below b8 bb_7a.lt; have z1_8 := z1_7a.below b8 z1_7a.lt; have z2_8 := z2_7a.below b8 z2_7a.lt; have zk0_0 := z1_8.cell0; have zf0_0 := z1_8.frozen 0; have zk0_1 := z1_8.cell1; have zf0_1 := z1_8.frozen 1; have zk0_2 := z1_8.cell2; have zf0_2 := z1_8.frozen 2; have zk0_3 := z1_8.cell3; have zf0_3 := z1_8.frozen 3; have zk0_4 := z1_8.cell4; have zf0_4 := z1_8.frozen 4; have zk0_5 := z1_8.cell5; have zf0_5 := z1_8.frozen 5; have zk1_0 := z2_8.cell0; have zf1_0 := z2_8.frozen 0; have zk1_1 := z2_8.cell1; have zf1_1 := z2_8.frozen 1; have zk1_2 := z2_8.cell2; have zf1_2 := z2_8.frozen 2; have zk1_3 := z2_8.cell3; have zf1_3 := z2_8.frozen 3; have zk1_4 := z2_8.cell4; have zf1_4 := z2_8.frozen 4; have zk1_5 := z2_8.cell5; have zf1_5 := z2_8.frozen 5; have F8 := below_then F_7a (Nat.le_refl _) b8; have kl_ba := ba_8.lt; have km_ba := Nat.ne_of_lt ba_8.lt; have kn_ba := Nat.ne_of_gt ba_8.lt; have kc_ba0 := ba_8.cell0; have kc_ba1 := ba_8.cell1; have kc_ba2 := ba_8.cell2; have kc_ba3 := ba_8.cell3; have kc_ba4 := ba_8.cell4; have kc_ba5 := ba_8.cell5; have kl_bb := bb_8.lt; have km_bb := Nat.ne_of_lt bb_8.lt; have kn_bb := Nat.ne_of_gt bb_8.lt; have kc_bb0 := bb_8.cell0; have kc_bb1 := bb_8.cell1; have kc_bb2 := bb_8.cell2; have kc_bb3 := bb_8.cell3; have kc_bb4 := bb_8.cell4; have kc_bb5 := bb_8.cell5; have kl0 := z1_8.lt; have km0 := Nat.ne_of_lt z1_8.lt; have kn0 := Nat.ne_of_gt z1_8.lt; have kl1 := z2_8.lt; have km1 := Nat.ne_of_lt z2_8.lt; have kn1 := Nat.ne_of_gt z2_8.lt)
        | (go_at_call 30; (with_reducible refine (irelu_e _ _ p q A2 B2 _ HA2.out HB2.out ku_7 kv_7 HP.out.1 sp sq).mono ?_); rintro e w8 ⟨u8, v8, rfl, r1, r2, b8⟩; have ku_8 := ku_7.below b8; have kv_8 := kv_7.below b8; have kx_8 := kx_7.below b8; have ky_8 := ky_7.below b8; have m1_8 := m1.below b8; have m2_8 := m2.below b8; have ba_8 := ba_7.below b8 ba_7.lt; have bb_8 := bb_7.below b8 bb_7.lt; have F8 := below_then F7 (Nat.le_refl _) b8; have kl_ba := ba_8.lt; have km_ba := Nat.ne_of_lt ba_8.lt; have kn_ba := Nat.ne_of_gt ba_8.lt; have kc_ba0 := ba_8.cell0; have kc_ba1 := ba_8.cell1; have kc_ba2 := ba_8.cell2; have kc_ba3 := ba_8.cell3; have kc_ba4 := ba_8.cell4; have kc_ba5 := ba_8.cell5; have kl_bb := bb_8.lt; have km_bb := Nat.ne_of_lt bb_8.lt; have kn_bb := Nat.ne_of_gt bb_8.lt; have kc_bb0 := bb_8.cell0; have kc_bb1 := bb_8.cell1; have kc_bb2 := bb_8.cell2; have kc_bb3 := bb_8.cell3; have kc_bb4 := bb_8.cell4; have kc_bb5 := bb_8.cell5)
        | (have qx_ba := ba_7.lt; have qx_bb := bb_7.lt; have lz1_ba : w.heap.size ≠ w7.heap.size := (by omega); have ly1_ba := Ne.symm lz1_ba; have lz1_bb : w.heap.size + 1 ≠ w7.heap.size := (by omega); have ly1_bb := Ne.symm lz1_bb; have gl1 : w.heap.size ≤ w7.heap.size := (by have := F7.size; omega); have ku_7a := ku_7.alloc EV0; have kv_7a := kv_7.alloc EV0; have kx_7a := kx_7.alloc EV0; have ky_7a := ky_7.alloc EV0; have m1_7a := m1.alloc EV0; have m2_7a := m2.alloc EV0; have ba_7a := ba_7.alloc EV0; have bb_7a := bb_7.alloc EV0; have z1_7a : S6 ((w7).alloc EV0) (w7.heap.size) (.bool false) (.slice none 0 0) (.slice none 0 0) (.bool false) (.slice none 0 0) (.slice none 0 0) := (by (have h_ := S6.new (w7) (.bool false) (.slice none 0 0) (.slice none 0 0) (.bool false) (.slice none 0 0) (.slice none 0 0); exact h_)); have F_7a := F7.alloc F7.size EV0; go_at_call 30; (with_reducible refine (irelu_e _ _ p q A2 B2 _ HA2.out HB2.out ku_7a kv_7a HP.out.1 sp sq).mono ?_); rintro e w8 ⟨u8, v8, rfl, r1, r2, b8⟩; have ku_8 := ku_7a.below b8; have kv_8 := kv_7a.below b8; have kx_8 := kx_7a.below b8; have ky_8 := ky_7a.below b8; have m1_8 := m1_7a.below b8; have m2_8 := m2_7a.below b8; have ba_8 := ba_7a.below b8 ba_7a.lt; have bb_8 := bb_7a.below b8 bb_7a.lt; have z1_8 := z1_7a.below b8 z1_7a.lt; have zk0_0 := z1_8.cell0; have zf0_0 := z1_8.frozen 0; have zk0_1 := z1_8.cell1; have zf0_1 := z1_8.frozen 1; have zk0_2 := z1_8.cell2; have zf0_2 := z1_8.frozen 2; have zk0_3 := z1_8.cell3; have zf0_3 := z1_8.frozen 3; have zk0_4 := z1_8.cell4; have zf0_4 := z1_8.frozen 4; have zk0_5 := z1_8.cell5; have zf0_5 := z1_8.frozen 5; have F8 := below_then F_7a (Nat.le_refl _) b8; have kl_ba := ba_8.lt; have km_ba := Nat.ne_of_lt ba_8.lt; have kn_ba := Nat.ne_of_gt ba_8.lt; have kc_ba0 := ba_8.cell0; have kc_ba1 := ba_8.cell1; have kc_ba2 := ba_8.cell2; have kc_ba3 := ba_8.cell3; have kc_ba4 := ba_8.cell4; have kc_ba5 := ba_8.cell5; have kl_bb := bb_8.lt; have km_bb := Nat.ne_of_lt bb_8.lt; have kn_bb := Nat.ne_of_gt bb_8.lt; have kc_bb0 := bb_8.cell0; have kc_bb1 := bb_8.cell1; have kc_bb2 := bb_8.cell2; have kc_bb3 := bb_8.cell3; have kc_bb4 := bb_8.cell4; have kc_bb5 := bb_8.cell5; have kl0 := z1_8.lt; have km0 := Nat.ne_of_lt z1_8.lt; have kn0 := Nat.ne_of_gt z1_8.lt)
        | (have qx_ba := ba_7.lt; have qx_bb := bb_7.lt; have lz1_ba : w.heap.size ≠ w7.heap.size := (by omega); have ly1_ba := Ne.symm lz1_ba; have lz1_bb : w.heap.size + 1 ≠ w7.heap.size := (by omega); have ly1_bb := Ne.symm lz1_bb; have gl1 : w.heap.size ≤ w7.heap.size := (by have := F7.size; omega); have ku_7a := ku_7.alloc EV0; have kv_7a := kv_7.alloc EV0; have kx_7a := kx_7.alloc EV0; have ky_7a := ky_7.alloc EV0; have m1_7a := m1.alloc EV0; have m2_7a := m2.alloc EV0; have ba_7a := ba_7.alloc EV0; have bb_7a := bb_7.alloc EV0; have z1_7a : S6 ((w7).alloc EV0) (w7.heap.size) (.bool false) (.slice none 0 0) (.slice none 0 0) (.bool false) (.slice none 0 0) (.slice none 0 0) := (by (have h_ := S6.new (w7) (.bool false) (.slice none 0 0) (.slice none 0 0) (.bool false) (.slice none 0 0) (.slice none 0 0); exact h_)); have F_7a := F7.alloc F7.size EV0; have lz2_ba : w.heap.size ≠ w7.heap.size + 1 := (by omega); have ly2_ba := Ne.symm lz2_ba; have lz2_bb : w.heap.size + 1 ≠ w7.heap.size + 1 := (by omega); have ly2_bb := Ne.symm lz2_bb; have gl2 : w.heap.size ≤ w7.heap.size + 1 := (by have := F7.size; omega); have lzz1_2 : w7.heap.size ≠ w7.heap.size + 1 := (by omega); have lyy1_2 := Ne.symm lzz1_2; have ku_7b := ku_7a.alloc EV0; have kv_7b := kv_7a.alloc EV0; have kx_7b := kx_7a.alloc EV0; have ky_7b := ky_7a.alloc EV0; have m1_7b := m1_7a.alloc EV0; have m2_7b := m2_7a.alloc EV0; have ba_7b := ba_7a.alloc EV0; have bb_7b := bb_7a.alloc EV0; have z1_7b := z1_7a.alloc EV0; have z2_7b : S6 (((w7).alloc EV0).alloc EV0) (w7.heap.size + 1) (.bool false) (.slice none 0 0) (.slice none 0 0) (.bool false) (.slice none 0 0) (.slice none 0 0) := (by (have h_ := S6.new ((w7).alloc EV0) (.bool false) (.slice none 0 0) (.slice none 0 0) (.bool false) (.slice none 0 0) (.slice none 0 0); simp only [World.size_alloc] at h_; exact h_)); have F_7b := F_7a.alloc F_7a.size EV0; go_at_call 30; (with_reducible refine (irelu_e _ _ p q A2 B2 _ HA2.out HB2.out ku_7b kv_7b HP.out.1 sp sq).mono ?_); rintro e w8 ⟨u8, v8, rfl, r1, r2, b8⟩; have ku_8 := ku_7b.below b8; have kv_8 := kv_7b.below b8; have kx_8 := kx_7b.below b8; have ky_8 := ky_7b.below b8; have m1_8 := m1_7b.below b8; have m2_8 := m2_7b.below b8; have ba_8 := ba_7b.below b8 ba_7b.lt; have bb_8 := bb_7b.below b8 bb_7b.lt; have z1_8 := z1_7b.below b8 z1_7b.lt; have z2_8 := z2_7b.below b8 z2_7b.lt; have zk0_0 := z1_8.cell0; have zf0_0 := z1_8.frozen 0; have zk0_1 := z1_8.cell1; have zf0_1 := z1_8.frozen 1; have zk0_2 := z1_8.cell2; have zf0_2 := z1_8.frozen 2; have zk0_3 := z1_8.cell3; have zf0_3 := z1_8.frozen 3; have zk0_4 := z1_8.cell4; have zf0_4 := z1_8.frozen 4; have zk0_5 := z1_8.cell5; have zf0_5 := z1_8.frozen 5; have zk1_0 := z2_8.cell0; have zf1_0 := z2_8.frozen 0; have zk1_1 := z2_8.cell1; have zf1_1 := z2_8.frozen 1; have zk1_2 := z2_8.cell2; have zf1_2 := z2_8.frozen 2; have zk1_3 := z2_8.cell3; have zf1_3 := z2_8.frozen 3; have zk1_4 := z2_8.cell4; have zf1_4 := z2_8.frozen 4; have zk1_5 := z2_8.cell5; have zf1_5 := z2_8.frozen 5; have F8 := below_then F_7b (Nat.le_refl _) b8; have kl_ba := ba_8.lt; have km_ba := Nat.ne_of_lt ba_8.lt; have kn_ba := Nat.ne_of_gt ba_8.lt; have kc_ba0 := ba_8.cell0; have kc_ba1 := ba_8.cell1; have kc_ba2 := ba_8.cell2; have kc_ba3 := ba_8.cell3; have kc_ba4 := ba_8.cell4; have kc_ba5 := ba_8.cell5; have kl_bb := bb_8.lt; have km_bb := Nat.ne_of_lt bb_8.lt; have kn_bb := Nat.ne_of_gt bb_8.lt; have kc_bb0 := bb_8.cell0; have kc_bb1 := bb_8.cell1; have kc_bb2 := bb_8.cell2; have kc_bb3 := bb_8.cell3; have kc_bb4 := bb_8.cell4; have kc_bb5 := bb_8.cell5; have kl0 := z1_8.lt; have km0 := Nat.ne_of_lt z1_8.lt; have kn0 := Nat.ne_of_gt z1_8.lt; have kl1 := z2_8.lt; have km1 := Nat.ne_of_lt z2_8.lt; have kn1 := Nat.ne_of_gt z2_8.lt)
        | fail)
    all_goals (go_wp2_with fail; go_meet; first | with_reducible exact ⟨_, _, _, u7, v7, u8, v8, rfl, rfl, rfl, z1_8.stor.past lzz1_2, (z2_8.past lyy1_2).stor, (by first | exact lz1_ba | exact lz2_ba | (have h9_ := ba_8.lt; omega)), (by first | exact lz1_ba | exact lz2_ba | (have h9_ := ba_8.lt; omega)), (by first | exact lz1_bb | exact lz2_bb | (have h9_ := bb_8.lt; omega)), (by first | exact lz1_bb | exact lz2_bb | (have h9_ := bb_8.lt; omega)), (ba_8.past6 lz1_ba).past6 lz2_ba, (bb_8.past6 lz1_bb).past6 lz2_bb, (ku_8.stor6 z1_8 (.bool u7.s) (.slice u7.A u7.n u7.c) (.slice u7.B u7.m u7.d) (.bool v7.s) (.slice v7.A v7.n v7.c) (.slice v7.B v7.m v7.d)).stor6 (z2_8.past lyy1_2) (.bool u8.s) (.slice u8.A u8.n u8.c) (.slice u8.B u8.m u8.d) (.bool v8.s) (.slice v8.A v8.n v8.c) (.slice v8.B v8.m v8.d), (kv_8.stor6 z1_8 (.bool u7.s) (.slice u7.A u7.n u7.c) (.slice u7.B u7.m u7.d) (.bool v7.s) (.slice v7.A v7.n v7.c) (.slice v7.B v7.m v7.d)).stor6 (z2_8.past lyy1_2) (.bool u8.s) (.slice u8.A u8.n u8.c) (.slice u8.B u8.m u8.d) (.bool v8.s) (.slice v8.A v8.n v8.c) (.slice v8.B v8.m v8.d), (kx_8.stor6 z1_8 (.bool u7.s) (.slice u7.A u7.n u7.c) (.slice u7.B u7.m u7.d) (.bool v7.s) (.slice v7.A v7.n v7.c) (.slice v7.B v7.m v7.d)).stor6 (z2_8.past lyy1_2) (.bool u8.s) (.slice u8.A u8.n u8.c) (.slice u8.B u8.m u8.d) (.bool v8.s) (.slice v8.A v8.n v8.c) (.slice v8.B v8.m v8.d), (ky_8.stor6 z1_8 (.bool u7.s) (.slice u7.A u7.n u7.c) (.slice u7.B u7.m u7.d) (.bool v7.s) (.slice v7.A v7.n v7.c) (.slice v7.B v7.m v7.d)).stor6 (z2_8.past lyy1_2) (.bool u8.s) (.slice u8.A u8.n u8.c) (.slice u8.B u8.m u8.d) (.bool v8.s) (.slice v8.A v8.n v8.c) (.slice v8.B v8.m v8.d), (m1_8.stor6 z1_8 (.bool u7.s) (.slice u7.A u7.n u7.c) (.slice u7.B u7.m u7.d) (.bool v7.s) (.slice v7.A v7.n v7.c) (.slice v7.B v7.m v7.d)).stor6 (z2_8.past lyy1_2) (.bool u8.s) (.slice u8.A u8.n u8.c) (.slice u8.B u8.m u8.d) (.bool v8.s) (.slice v8.A v8.n v8.c) (.slice v8.B v8.m v8.d), (m2_8.stor6 z1_8 (.bool u7.s) (.slice u7.A u7.n u7.c) (.slice u7.B u7.m u7.d) (.bool v7.s) (.slice v7.A v7.n v7.c) (.slice v7.B v7.m v7.d)).stor6 (z2_8.past lyy1_2) (.bool u8.s) (.slice u8.A u8.n u8.c) (.slice u8.B u8.m u8.d) (.bool v8.s) (.slice v8.A v8.n v8.c) (.slice v8.B v8.m v8.d), (r1.stor6 z1_8 (.bool u7.s) (.slice u7.A u7.n u7.c) (.slice u7.B u7.m u7.d) (.bool v7.s) (.slice v7.A v7.n v7.c) (.slice v7.B v7.m v7.d)).stor6 (z2_8.past lyy1_2) (.bool u8.s) (.slice u8.A u8.n u8.c) (.slice u8.B u8.m u8.d) (.bool v8.s) (.slice v8.A v8.n v8.c) (.slice v8.B v8.m v8.d), (r2.stor6 z1_8 (.bool u7.s) (.slice u7.A u7.n u7.c) (.slice u7.B u7.m u7.d) (.bool v7.s) (.slice v7.A v7.n v7.c) (.slice v7.B v7.m v7.d)).stor6 (z2_8.past lyy1_2) (.bool u8.s) (.slice u8.A u8.n u8.c) (.slice u8.B u8.m u8.d) (.bool v8.s) (.slice v8.A v8.n v8.c) (.slice v8.B v8.m v8.d), below_six (below_six F8 gl1) gl2⟩ | with_reducible exact ⟨_, _, _, u7, v7, u8, v8, rfl, rfl, rfl, (z1_8.past lzz1_2).stor, z2_8.stor.past lyy1_2, (by first | exact lz1_ba | exact lz2_ba | (have h9_ := ba_8.lt; omega)), (by first | exact lz1_ba | exact lz2_ba | (have h9_ := ba_8.lt; omega)), (by first | exact lz1_bb | exact lz2_bb | (have h9_ := bb_8.lt; omega)), (by first | exact lz1_bb | exact lz2_bb | (have h9_ := bb_8.lt; omega)), (ba_8.past6 lz2_ba).past6 lz1_ba, (bb_8.past6 lz2_bb).past6 lz1_bb, (ku_8.stor6 z2_8 (.bool u8.s) (.slice u8.A u8.n u8.c) (.slice u8.B u8.m u8.d) (.bool v8.s) (.slice v8.A v8.n v8.c) (.slice v8.B v8.m v8.d)).stor6 (z1_8.past lzz1_2) (.bool u7.s) (.slice u7.A u7.n u7.c) (.slice u7.B u7.m u7.d) (.bool v7.s) (.slice v7.A v7.n v7.c) (.slice v7.B v7.m v7.d), (kv_8.stor6 z2_8 (.bool u8.s) (.slice u8.A u8.n u8.c) (.slice u8.B u8.m u8.d) (.bool v8.s) (.slice v8.A v8.n v8.c) (.slice v8.B v8.m v8.d)).stor6 (z1_8.past lzz1_2) (.bool u7.s) (.slice u7.A u7.n u7.c) (.slice u7.B u7.m u7.d) (.bool v7.s) (.slice v7.A v7.n v7.c) (.slice v7.B v7.m v7.d), (kx_8.stor6 z2_8 (.bool u8.s) (.slice u8.A u8.n u8.c) (.slice u8.B u8.m u8.d) (.bool v8.s) (.slice v8.A v8.n v8.c) (.slice v8.B v8.m v8.d)).stor6 (z1_8.past lzz1_2) (.bool u7.s) (.slice u7.A u7.n u7.c) (.slice u7.B u7.m u7.d) (.bool v7.s) (.slice v7.A v7.n v7.c) (.slice v7.B v7.m v7.d), (ky_8.stor6 z2_8 (.bool u8.s) (.slice u8.A u8.n u8.c) (.slice u8.B u8.m u8.d) (.bool v8.s) (.slice v8.A v8.n v8.c) (.slice v8.B v8.m v8.d)).stor6 (z1_8.past lzz1_2) (.bool u7.s) (.slice u7.A u7.n u7.c) (.slice u7.B u7.m u7.d) (.bool v7.s) (.slice v7.A v7.n v7.c) (.slice v7.B v7.m v7.d), (m1_8.stor6 z2_8 (.bool u8.s) (.slice u8.A u8.n u8.c) (.slice u8.B u8.m u8.d) (.bool v8.s) (.slice v8.A v8.n v8.c) (.slice v8.B v8.m v8.d)).stor6 (z1_8.past lzz1_2) (.bool u7.s) (.slice u7.A u7.n u7.c) (.slice u7.B u7.m u7.d) (.bool v7.s) (.slice v7.A v7.n v7.c) (.slice v7.B v7.m v7.d), (m2_8.stor6 z2_8 (.bool u8.s) (.slice u8.A u8.n u8.c) (.slice u8.B u8.m u8.d) (.bool v8.s) (.slice v8.A v8.n v8.c) (.slice v8.B v8.m v8.d)).stor6 (z1_8.past lzz1_2) (.bool u7.s) (.slice u7.A u7.n u7.c) (.slice u7.B u7.m u7.d) (.bool v7.s) (.slice v7.A v7.n v7.c) (.slice v7.B v7.m v7.d), (r1.stor6 z2_8 (.bool u8.s) (.slice u8.A u8.n u8.c) (.slice u8.B u8.m u8.d) (.bool v8.s) (.slice v8.A v8.n v8.c) (.slice v8.B v8.m v8.d)).stor6 (z1_8.past lzz1_2) (.bool u7.s) (.slice u7.A u7.n u7.c) (.slice u7.B u7.m u7.d) (.bool v7.s) (.slice v7.A v7.n v7.c) (.slice v7.B v7.m v7.d), (r2.stor6 z2_8 (.bool u8.s) (.slice u8.A u8.n u8.c) (.slice u8.B u8.m u8.d) (.bool v8.s) (.slice v8.A v8.n v8.c) (.slice v8.B v8.m v8.d)).stor6 (z1_8.past lzz1_2) (.bool u7.s) (.slice u7.A u7.n u7.c) (.slice u7.B u7.m u7.d) (.bool v7.s) (.slice v7.A v7.n v7.c) (.slice v7.B v7.m v7.d), below_six (below_six F8 gl2) gl1⟩ | with_reducible exact ⟨_, _, _, u7, v7, u8, v8, rfl, rfl, rfl, z2_8.stor.past lyy1_2, (z1_8.past lzz1_2).stor, (by first | exact lz1_ba | exact lz2_ba | (have h9_ := ba_8.lt; omega)), (by first | exact lz1_ba | exact lz2_ba | (have h9_ := ba_8.lt; omega)), (by first | exact lz1_bb | exact lz2_bb | (have h9_ := bb_8.lt; omega)), (by first | exact lz1_bb | exact lz2_bb | (have h9_ := bb_8.lt; omega)), (ba_8.past6 lz2_ba).past6 lz1_ba, (bb_8.past6 lz2_bb).past6 lz1_bb, (ku_8.stor6 z2_8 (.bool u7.s) (.slice u7.A u7.n u7.c) (.slice u7.B u7.m u7.d) (.bool v7.s) (.slice v7.A v7.n v7.c) (.slice v7.B v7.m v7.d)).stor6 (z1_8.past lzz1_2) (.bool u8.s) (.slice u8.A u8.n u8.c) (.slice u8.B u8.m u8.d) (.bool v8.s) (.slice v8.A v8.n v8.c) (.slice v8.B v8.m v8.d), (kv_8.stor6 z2_8 (.bool u7.s) (.slice u7.A u7.n u7.c) (.slice u7.B u7.m u7.d) (.bool v7.s) (.slice v7.A v7.n v7.c) (.slice v7.B v7.m v7.d)).stor6 (z1_8.past lzz1_2) (.bool u8.s) (.slice u8.A u8.n u8.c) (.slice u8.B u8.m u8.d) (.bool v8.s) (.slice v8.A v8.n v8.c) (.slice v8.B v8.m v8.d), (kx_8.stor6 z2_8 (.bool u7.s) (.slice u7.A u7.n u7.c) (.slice u7.B u7.m u7.d) (.bool v7.s) (.slice v7.A v7.n v7.c) (.slice v7.B v7.m v7.d)).stor6 (z1_8.past lzz1_2) (.bool u8.s) (.slice u8.A u8.n u8.c) (.slice u8.B u8.m u8.d) (.bool v8.s) (.slice v8.A v8.n v8.c) (.slice v8.B v8.m v8.d), (ky_8.stor6 z2_8 (.bool u7.s) (.slice u7.A u7.n u7.c) (.slice u7.B u7.m u7.d) (.bool v7.s) (.slice v7.A v7.n v7.c) (.slice v7.B v7.m v7.d)).stor6 (z1_8.past lzz1_2) (.bool u8.s) (.slice u8.A u8.n u8.c) (.slice u8.B u8.m u8.d) (.bool v8.s) (.slice v8.A v8.n v8.c) (.slice v8.B v8.m v8.d), (m1_8.stor6 z2_8 (.bool u7.s) (.slice u7.A u7.n u7.c) (.slice u7.B u7.m u7.d) (.bool v7.s) (.slice v7.A v7.n v7.c) (.slice v7.B v7.m v7.d)).stor6 (z1_8.past lzz1_2) (.bool u8.s) (.slice u8.A u8.n u8.c) (.slice u8.B u8.m u8.d) (.bool v8.s) (.slice v8.A v8.n v8.c) (.slice v8.B v8.m v8.d), (m2_8.stor6 z2_8 (.bool u7.s) (.slice u7.A u7.n u7.c) (.slice u7.B u7.m u7.d) (.bool v7.s) (.slice v7.A v7.n v7.c) (.slice v7.B v7.m v7.d)).stor6 (z1_8.past lzz1_2) (.bool u8.s) (.slice u8.A u8.n u8.c) (.slice u8.B u8.m u8.d) (.bool v8.s) (.slice v8.A v8.n v8.c) (.slice v8.B v8.m v8.d), (r1.stor6 z2_8 (.bool u7.s) (.slice u7.A u7.n u7.c) (.slice u7.B u7.m u7.d) (.bool v7.s) (.slice v7.A v7.n v7.c) (.slice v7.B v7.m v7.d)).stor6 (z1_8.past lzz1_2) (.bool u8.s) (.slice u8.A u8.n u8.c) (.slice u8.B u8.m u8.d) (.bool v8.s) (.slice v8.A v8.n v8.c) (.slice v8.B v8.m v8.d), (r2.stor6 z2_8 (.bool u7.s) (.slice u7.A u7.n u7.c) (.slice u7.B u7.m u7.d) (.bool v7.s) (.slice v7.A v7.n v7.c) (.slice v7.B v7.m v7.d)).stor6 (z1_8.past lzz1_2) (.bool u8.s) (.slice u8.A u8.n u8.c) (.slice u8.B u8.m u8.d) (.bool v8.s) (.slice v8.A v8.n v8.c) (.slice v8.B v8.m v8.d), below_six (below_six F8 gl2) gl1⟩ | with_reducible exact ⟨_, _, _, u7, v7, u8, v8, rfl, rfl, rfl, (z2_8.past lyy1_2).stor, z1_8.stor.past lzz1_2, (by first | exact lz1_ba | exact lz2_ba | (have h9_ := ba_8.lt; omega)), (by first | exact lz1_ba | exact lz2_ba | (have h9_ := ba_8.lt; omega)), (by first | exact lz1_bb | exact lz2_bb | (have h9_ := bb_8.lt; omega)), (by first | exact lz1_bb | exact lz2_bb | (have h9_ := bb_8.lt; omega)), (ba_8.past6 lz1_ba).past6 lz2_ba, (bb_8.past6 lz1_bb).past6 lz2_bb, (ku_8.stor6 z1_8 (.bool u8.s) (.slice u8.A u8.n u8.c) (.slice u8.B u8.m u8.d) (.bool v8.s) (.slice v8.A v8.n v8.c) (.slice v8.B v8.m v8.d)).stor6 (z2_8.past lyy1_2) (.bool u7.s) (.slice u7.A u7.n u7.c) (.slice u7.B u7.m u7.d) (.bool v7.s) (.slice v7.A v7.n v7.c) (.slice v7.B v7.m v7.d), (kv_8.stor6 z1_8 (.bool u8.s) (.slice u8.A u8.n u8.c) (.slice u8.B u8.m u8.d) (.bool v8.s) (.slice v8.A v8.n v8.c) (.slice v8.B v8.m v8.d)).stor6 (z2_8.past lyy1_2) (.bool u7.s) (.slice u7.A u7.n u7.c) (.slice u7.B u7.m u7.d) (.bool v7.s) (.slice v7.A v7.n v7.c) (.slice v7.B v7.m v7.d), (kx_8.stor6 z1_8 (.bool u8.s) (.slice u8.A u8.n u8.c) (.slice u8.B u8.m u8.d) (.bool v8.s) (.slice v8.A v8.n v8.c) (.slice v8.B v8.m v8.d)).stor6 (z2_8.past lyy1_2) (.bool u7.s) (.slice u7.A u7.n u7.c) (.slice u7.B u7.m u7.d) (.bool v7.s) (.slice v7.A v7.n v7.c) (.slice v7.B v7.m v7.d), (ky_8.stor6 z1_8 (.bool u8.s) (.slice u8.A u8.n u8.c) (.slice u8.B u8.m u8.d) (.bool v8.s) (.slice v8.A v8.n v8.c) (.slice v8.B v8.m v8.d)).stor6 (z2_8.past lyy1_2) (.bool u7.s) (.slice u7.A u7.n u7.c) (.slice u7.B u7.m u7.d) (.bool v7.s) (.slice v7.A v7.n v7.c) (.slice v7.B v7.m v7.d), (m1_8.stor6 z1_8 (.bool u8.s) (.slice u8.A u8.n u8.c) (.slice u8.B u8.m u8.d) (.bool v8.s) (.slice v8.A v8.n v8.c) (.slice v8.B v8.m v8.d)).stor6 (z2_8.past lyy1_2) (.bool u7.s) (.slice u7.A u7.n u7.c) (.slice u7.B u7.m u7.d) (.bool v7.s) (.slice v7.A v7.n v7.c) (.slice v7.B v7.m v7.d), (m2_8.stor6 z1_8 (.bool u8.s) (.slice u8.A u8.n u8.c) (.slice u8.B u8.m u8.d) (.bool v8.s) (.slice v8.A v8.n v8.c) (.slice v8.B v8.m v8.d)).stor6 (z2_8.past lyy1_2) (.bool u7.s) (.slice u7.A u7.n u7.c) (.slice u7.B u7.m u7.d) (.bool v7.s) (.slice v7.A v7.n v7.c) (.slice v7.B v7.m v7.d), (r1.stor6 z1_8 (.bool u8.s) (.slice u8.A u8.n u8.c) (.slice u8.B u8.m u8.d) (.bool v8.s) (.slice v8.A v8.n v8.c) (.slice v8.B v8.m v8.d)).stor6 (z2_8.past lyy1_2) (.bool u7.s) (.slice u7.A u7.n u7.c) (.slice u7.B u7.m u7.d) (.bool v7.s) (.slice v7.A v7.n v7.c) (.slice v7.B v7.m v7.d), (r2.stor6 z1_8 (.bool u8.s) (.slice u8.A u8.n u8.c) (.slice u8.B u8.m u8.d) (.bool v8.s) (.slice v8.A v8.n v8.c) (.slice v8.B v8.m v8.d)).stor6 (z2_8.past lyy1_2) (.bool u7.s) (.slice u7.A u7.n u7.c) (.slice u7.B u7.m u7.d) (.bool v7.s) (.slice v7.A v7.n v7.c) (.slice v7.B v7.m v7.d), below_six (below_six F8 gl1) gl2⟩ | with_reducible exact ⟨_, _, _, u7, v7, u8, v8, rfl, rfl, rfl, (z1_8.stor).alloc _, S6_at (S6.new _ _ _ _ _ _ _) (by simp [World.setCell]), (by first | exact lz1_ba | exact lz2_ba | (have h9_ := ba_8.lt; omega)), (by first | exact lz1_ba | exact lz2_ba | (have h9_ := ba_8.lt; omega)), (by first | exact lz1_bb | exact lz2_bb | (have h9_ := bb_8.lt; omega)), (by first | exact lz1_bb | exact lz2_bb | (have h9_ := bb_8.lt; omega)), (ba_8.past6 lz1_ba).alloc _, (bb_8.past6 lz1_bb).alloc _, (ku_8.stor6 z1_8 (.bool u7.s) (.slice u7.A u7.n u7.c) (.slice u7.B u7.m u7.d) (.bool v7.s) (.slice v7.A v7.n v7.c) (.slice v7.B v7.m v7.d)).alloc _, (kv_8.stor6 z1_8 (.bool u7.s) (.slice u7.A u7.n u7.c) (.slice u7.B u7.m u7.d) (.bool v7.s) (.slice v7.A v7.n v7.c) (.slice v7.B v7.m v7.d)).alloc _, (kx_8.stor6 z1_8 (.bool u7.s) (.slice u7.A u7.n u7.c) (.slice u7.B u7.m u7.d) (.bool v7.s) (.slice v7.A v7.n v7.c) (.slice v7.B v7.m v7.d)).alloc _, (ky_8.stor6 z1_8 (.bool u7.s) (.slice u7.A u7.n u7.c) (.slice u7.B u7.m u7.d) (.bool v7.s) (.slice v7.A v7.n v7.c) (.slice v7.B v7.m v7.d)).alloc _, (m1_8.stor6 z1_8 (.bool u7.s) (.slice u7.A u7.n u7.c) (.slice u7.B u7.m u7.d) (.bool v7.s) (.slice v7.A v7.n v7.c) (.slice v7.B v7.m v7.d)).alloc _, (m2_8.stor6 z1_8 (.bool u7.s) (.slice u7.A u7.n u7.c) (.slice u7.B u7.m u7.d) (.bool v7.s) (.slice v7.A v7.n v7.c) (.slice v7.B v7.m v7.d)).alloc _, (r1.stor6 z1_8 (.bool u7.s) (.slice u7.A u7.n u7.c) (.slice u7.B u7.m u7.d) (.bool v7.s) (.slice v7.A v7.n v7.c) (.slice v7.B v7.m v7.d)).alloc _, (r2.stor6 z1_8 (.bool u7.s) (.slice u7.A u7.n u7.c) (.slice u7.B u7.m u7.d) (.bool v7.s) (.slice v7.A v7.n v7.c) (.slice v7.B v7.m v7.d)).alloc _, (below_six F8 gl1).alloc (below_six F8 gl1).size _⟩ | with_reducible exact ⟨_, _, _, u7, v7, u8, v8, rfl, rfl, rfl, S6_at (S6.new _ _ _ _ _ _ _) (by simp [World.setCell]), (z1_8.stor).alloc _, (by first | exact lz1_ba | exact lz2_ba | (have h9_ := ba_8.lt; omega)), (by first | exact lz1_ba | exact lz2_ba | (have h9_ := ba_8.lt; omega)), (by first | exact lz1_bb | exact lz2_bb | (have h9_ := bb_8.lt; omega)), (by first | exact lz1_bb | exact lz2_bb | (have h9_ := bb_8.lt; omega)), (ba_8.past6 lz1_ba).alloc _, (bb_8.past6 lz1_bb).alloc _, (ku_8.stor6 z1_8 (.bool u8.s) (.slice u8.A u8.n u8.c) (.slice u8.B u8.m u8.d) (.bool v8.s) (.slice v8.A v8.n v8.c) (.slice v8.B v8.m v8.d)).alloc _, (kv_8.stor6 z1_8 (.bool u8.s) (.slice u8.A u8.n u8.c) (.slice u8.B u8.m u8.d) (.bool v8.s) (.slice v8.A v8.n v8.c) (.slice v8.B v8.m v8.d)).alloc _, (kx_8.stor6 z1_8 (.bool u8.s) (.slice u8.A u8.n u8.c) (.slice u8.B u8.m u8.d) (.bool v8.s) (.slice v8.A v8.n v8.c) (.slice v8.B v8.m v8.d)).alloc _, (ky_8.stor6 z1_8 (.bool u8.s) (.slice u8.A u8.n u8.c) (.slice u8.B u8.m u8.d) (.bool v8.s) (.slice v8.A v8.n v8.c) (.slice v8.B v8.m v8.d)).alloc _, (m1_8.stor6 z1_8 (.bool u8.s) (.slice u8.A u8.n u8.c) (.slice u8.B u8.m u8.d) (.bool v8.s) (.slice v8.A v8.n v8.c) (.slice v8.B v8.m v8.d)).alloc _, (m2_8.stor6 z1_8 (.bool u8.s) (.slice u8.A u8.n u8.c) (.slice u8.B u8.m u8.d) (.bool v8.s) (.slice v8.A v8.n v8.c) (.slice v8.B v8.m v8.d)).alloc _, (r1.stor6 z1_8 (.bool u8.s) (.slice u8.A u8.n u8.c) (.slice u8.B u8.m u8.d) (.bool v8.s) (.slice v8.A v8.n v8.c) (.slice v8.B v8.m v8.d)).alloc _, (r2.stor6 z1_8 (.bool u8.s) (.slice u8.A u8.n u8.c) (.slice u8.B u8.m u8.d) (.bool v8.s) (.slice v8.A v8.n v8.c) (.slice v8.B v8.m v8.d)).alloc _, (below_six F8 gl1).alloc (below_six F8 gl1).size _⟩ | with_reducible exact ⟨_, _, _, u7, v7, u8, v8, rfl, rfl, rfl, (S6.new _ _ _ _ _ _ _).alloc _, S6_at (S6.new _ _ _ _ _ _ _) (by simp), (by first | exact lz1_ba | exact lz2_ba | (have h9_ := ba_8.lt; omega)), (by first | exact lz1_ba | exact lz2_ba | (have h9_ := ba_8.lt; omega)), (by first | exact lz1_bb | exact lz2_bb | (have h9_ := bb_8.lt; omega)), (by first | exact lz1_bb | exact lz2_bb | (have h9_ := bb_8.lt; omega)), (ba_8.alloc _).alloc _, (bb_8.alloc _).alloc _, (ku_8.alloc _).alloc _, (kv_8.alloc _).alloc _, (kx_8.alloc _).alloc _, (ky_8.alloc _).alloc _, (m1_8.alloc _).alloc _, (m2_8.alloc _).alloc _, (r1.alloc _).alloc _, (r2.alloc _).alloc _, (F8.alloc F8.size _).alloc (F8.alloc F8.size _).size _⟩ | with_reducible exact ⟨_, _, _, u7, v7, u8, v8, rfl, rfl, rfl, S6_at (S6.new _ _ _ _ _ _ _) (by simp), (S6.new _ _ _ _ _ _ _).alloc _, (by first | exact lz1_ba | exact lz2_ba | (have h9_ := ba_8.lt; omega)), (by first | exact lz1_ba | exact lz2_ba | (have h9_ := ba_8.lt; omega)), (by first | exact lz1_bb | exact lz2_bb | (have h9_ := bb_8.lt; omega)), (by first | exact lz1_bb | exact lz2_bb | (have h9_ := bb_8.lt; omega)), (ba_8.alloc _).alloc _, (bb_8.alloc _).alloc _, (ku_8.alloc _).alloc _, (kv_8.alloc _).alloc _, (kx_8.alloc _).alloc _, (ky_8.alloc _).alloc _, (m1_8.alloc _).alloc _, (m2_8.alloc _).alloc _, (r1.alloc _).alloc _, (r2.alloc _).alloc _, (F8.alloc F8.size _).alloc (F8.alloc F8.size _).size _⟩ | fail)
  case rest =>
    obtain ⟨Wqx, gqx, gqy, qxu, qxv, qyu, qyv, rfl, rfl, rfl, hgqx0, hgqy0, nx9_ba, ny9_ba, nx9_bb, ny9_bb, ba_9, bb_9, ku_9, kv_9, kx_9, ky_9, m1_9, m2_9, r1_9, r2_9, F9⟩ := hcut
    have hgqx : Sv Wqx gqx qxu qxv := hgqx0
    have hgqy : Sv Wqx gqy qyu qyv := hgqy0
    clear hgqx0 hgqy0
    have ba_u9 := ba_9.cell0
    have ba_v9 := ba_9.cell1
    have ba_w9 := ba_9.cell2
    have ba_x9 := ba_9.cell3
    have ba_y9 := ba_9.cell4
    have ba_z9 := ba_9.cell5
    have bb_u9 := bb_9.cell0
    have bb_v9 := bb_9.cell1
    have bb_w9 := bb_9.cell2
    have bb_x9 := bb_9.cell3
    have bb_y9 := bb_9.cell4
    have bb_z9 := bb_9.cell5
    have qx_u9 := hgqx.cell0
    have qx_v9 := hgqx.cell1
    have qx_w9 := hgqx.cell2
    have qx_x9 := hgqx.cell3
    have qx_y9 := hgqx.cell4
    have qx_z9 := hgqx.cell5
    have qy_u9 := hgqy.cell0
    have qy_v9 := hgqy.cell1
    have qy_w9 := hgqy.cell2
    have qy_x9 := hgqy.cell3
    have qy_y9 := hgqy.cell4
    have qy_z9 := hgqy.cell5
    go_wp2_with fail
    have ku_10 := ku_9.drew
    have kv_10 := kv_9.drew
    have kx_10 := kx_9.drew
    have ky_10 := ky_9.drew
    have m1_10 := m1_9.drew
    have m2_10 := m2_9.drew
    have r1_10 := r1_9.drew
    have r2_10 := r2_9.drew
    have ba_10 := ba_9.drew
    have bb_10 := bb_9.drew
    have qx_10 := hgqx.drew
    have qy_10 := hgqy.drew
    have F10 := F9.drew
    go_region_held3 (fun w' => w'.cell? ⟨w.heap.size, 0, none⟩ = some (.bool u.s) ∧ w'.cell? ⟨w.heap.size, 1, none⟩ = some (.slice u.A u.n u.c) ∧ w'.cell? ⟨w.heap.size, 2, none⟩ = some (.slice u.B u.m u.d) ∧ w'.cell? ⟨w.heap.size, 3, none⟩ = some (.bool v.s) ∧ w'.cell? ⟨w.heap.size, 4, none⟩ = some (.slice v.A v.n v.c) ∧ w'.cell? ⟨w.heap.size, 5, none⟩ = some (.slice v.B v.m v.d) ∧ w'.cell? ⟨w.heap.size + 1, 0, none⟩ = some (.bool x.s) ∧ w'.cell? ⟨w.heap.size + 1, 1, none⟩ = some (.slice x.A x.n x.c) ∧ w'.cell? ⟨w.heap.size + 1, 2, none⟩ = some (.slice x.B x.m x.d) ∧ w'.cell? ⟨w.heap.size + 1, 3, none⟩ = some (.bool y.s) ∧ w'.cell? ⟨w.heap.size + 1, 4, none⟩ = some (.slice y.A y.n y.c) ∧ w'.cell? ⟨w.heap.size + 1, 5, none⟩ = some (.slice y.B y.m y.d) ∧ w'.cell? ⟨gqx, 0, none⟩ = some (.bool qxu.s) ∧ w'.cell? ⟨gqx, 1, none⟩ = some (.slice qxu.A qxu.n qxu.c) ∧ w'.cell? ⟨gqx, 2, none⟩ = some (.slice qxu.B qxu.m qxu.d) ∧ w'.cell? ⟨gqx, 3, none⟩ = some (.bool qxv.s) ∧ w'.cell? ⟨gqx, 4, none⟩ = some (.slice qxv.A qxv.n qxv.c) ∧ w'.cell? ⟨gqx, 5, none⟩ = some (.slice qxv.B qxv.m qxv.d) ∧ w'.cell? ⟨gqy, 0, none⟩ = some (.bool qyu.s) ∧ w'.cell? ⟨gqy, 1, none⟩ = some (.slice qyu.A qyu.n qyu.c) ∧ w'.cell? ⟨gqy, 2, none⟩ = some (.slice qyu.B qyu.m qyu.d) ∧ w'.cell? ⟨gqy, 3, none⟩ = some (.bool qyv.s) ∧ w'.cell? ⟨gqy, 4, none⟩ = some (.slice qyv.A qyv.n qyv.c) ∧ w'.cell? ⟨gqy, 5, none⟩ = some (.slice qyv.B qyv.m qyv.d))
      (first
        | with_reducible exact ⟨ba_14.cell0, ba_14.cell1, ba_14.cell2, ba_14.cell3, ba_14.cell4, ba_14.cell5, bb_14.cell0, bb_14.cell1, bb_14.cell2, bb_14.cell3, bb_14.cell4, bb_14.cell5, qx_14.cell0, qx_14.cell1, qx_14.cell2, qx_14.cell3, qx_14.cell4, qx_14.cell5, qy_14.cell0, qy_14.cell1, qy_14.cell2, qy_14.cell3, qy_14.cell4, qy_14.cell5⟩
        | with_reducible exact ⟨ba_13.cell0, ba_13.cell1, ba_13.cell2, ba_13.cell3, ba_13.cell4, ba_13.cell5, bb_13.cell0, bb_13.cell1, bb_13.cell2, bb_13.cell3, bb_13.cell4, bb_13.cell5, qx_13.cell0, qx_13.cell1, qx_13.cell2, qx_13.cell3, qx_13.cell4, qx_13.cell5, qy_13.cell0, qy_13.cell1, qy_13.cell2, qy_13.cell3, qy_13.cell4, qy_13.cell5⟩
        | with_reducible exact ⟨ba_12.cell0, ba_12.cell1, ba_12.cell2, ba_12.cell3, ba_12.cell4, ba_12.cell5, bb_12.cell0, bb_12.cell1, bb_12.cell2, bb_12.cell3, bb_12.cell4, bb_12.cell5, qx_12.cell0, qx_12.cell1, qx_12.cell2, qx_12.cell3, qx_12.cell4, qx_12.cell5, qy_12.cell0, qy_12.cell1, qy_12.cell2, qy_12.cell3, qy_12.cell4, qy_12.cell5⟩
        | with_reducible exact ⟨ba_11.cell0, ba_11.cell1, ba_11.cell2, ba_11.cell3, ba_11.cell4, ba_11.cell5, bb_11.cell0, bb_11.cell1, bb_11.cell2, bb_11.cell3, bb_11.cell4, bb_11.cell5, qx_11.cell0, qx_11.cell1, qx_11.cell2, qx_11.cell3, qx_11.cell4, qx_11.cell5, qy_11.cell0, qy_11.cell1, qy_11.cell2, qy_11.cell3, qy_11.cell4, qy_11.cell5⟩
        | with_reducible exact ⟨ba_10.cell0, ba_10.cell1, ba_10.cell2, ba_10.cell3, ba_10.cell4, ba_10.cell5, bb_10.cell0, bb_10.cell1, bb_10.cell2, bb_10.cell3, bb_10.cell4, bb_10.cell5, qx_10.cell0, qx_10.cell1, qx_10.cell2, qx_10.cell3, qx_10.cell4, qx_10.cell5, qy_10.cell0, qy_10.cell1, qy_10.cell2, qy_10.cell3, qy_10.cell4, qy_10.cell5⟩
        | fail)
      (first
        | (go_at_call 31; (with_reducible refine (rmul_e _ _ _ _ p q p' q' A1 B1 _ HA1.out HB1.out ku_10.iu kv_10.iu kx_10.iu ky_10.iu la lc lx ly sp sq sp' sq').mono ?_); rintro e w11 ⟨u11, v11, rfl, n1, n2, b11⟩; have ku_11 := ku_10.below b11; have kv_11 := kv_10.below b11; have kx_11 := kx_10.below b11; have ky_11 := ky_10.below b11; have m1_11 := m1_10.below b11; have m2_11 := m2_10.below b11; have r1_11 := r1_10.below b11; have r2_11 := r2_10.below b11; have ba_11 := ba_10.below b11 ba_10.lt; have bb_11 := bb_10.below b11 bb_10.lt; have qx_11 := qx_10.below b11 qx_10.lt; have qy_11 := qy_10.below b11 qy_10.lt; have F11 := below_then F10 (Nat.le_refl _) b11)
        | (go_at_call 13; (with_reducible refine (same_iv _ _ _ _ A1 B1 _ m1_11 m2_11 n1 n2 ((m1_11.len sA4).mono k4) ((m2_11.len sB4).mono k4)).mono ?_); rintro e w12 ⟨rfl, b12⟩; have ku_12 := ku_11.below b12; have kv_12 := kv_11.below b12; have kx_12 := kx_11.below b12; have ky_12 := ky_11.below b12; have m1_12 := m1_11.below b12; have m2_12 := m2_11.below b12; have r1_12 := r1_11.below b12; have r2_12 := r2_11.below b12; have n1_12 := n1.below b12; have n2_12 := n2.below b12; have ba_12 := ba_11.below b12 ba_11.lt; have bb_12 := bb_11.below b12 bb_11.lt; have qx_12 := qx_11.below b12 qx_11.lt; have qy_12 := qy_11.below b12 qy_11.lt; have F12 := below_then F11 (Nat.le_refl _) b12)
        | (go_at_call 32; (with_reducible refine (rrelu_e _ _ p q A2 B2 _ HA2.out HB2.out ku_12.iu kv_12.iu la lc).mono ?_); rintro e w13 ⟨u13, v13, rfl, n3, n4, b13⟩; have ku_13 := ku_12.below b13; have kv_13 := kv_12.below b13; have kx_13 := kx_12.below b13; have ky_13 := ky_12.below b13; have m1_13 := m1_12.below b13; have m2_13 := m2_12.below b13; have r1_13 := r1_12.below b13; have r2_13 := r2_12.below b13; have n1_13 := n1_12.below b13; have n2_13 := n2_12.below b13; have ba_13 := ba_12.below b13 ba_12.lt; have bb_13 := bb_12.below b13 bb_12.lt; have qx_13 := qx_12.below b13 qx_12.lt; have qy_13 := qy_12.below b13 qy_12.lt; have F13 := below_then F12 (Nat.le_refl _) b13)
        | (go_at_call 13; (with_reducible refine (same_iv _ _ _ _ A2 B2 _ r1_13 r2_13 n3 n4 ((r1_13.len sA5).mono k4) ((r2_13.len sB5).mono k4)).mono ?_); rintro e w14 ⟨rfl, b14⟩; have ku_14 := ku_13.below b14; have kv_14 := kv_13.below b14; have kx_14 := kx_13.below b14; have ky_14 := ky_13.below b14; have m1_14 := m1_13.below b14; have m2_14 := m2_13.below b14; have r1_14 := r1_13.below b14; have r2_14 := r2_13.below b14; have n1_14 := n1_13.below b14; have n2_14 := n2_13.below b14; have n3_14 := n3.below b14; have n4_14 := n4.below b14; have ba_14 := ba_13.below b14 ba_13.lt; have bb_14 := bb_13.below b14 bb_13.lt; have qx_14 := qx_13.below b14 qx_13.lt; have qy_14 := qy_13.below b14 qy_13.lt; have F14 := below_then F13 (Nat.le_refl _) b14)
        | fail)
    have ba_u14 := ba_14.cell0
    have ba_v14 := ba_14.cell1
    have ba_w14 := ba_14.cell2
    have ba_x14 := ba_14.cell3
    have ba_y14 := ba_14.cell4
    have ba_z14 := ba_14.cell5
    have bb_u14 := bb_14.cell0
    have bb_v14 := bb_14.cell1
    have bb_w14 := bb_14.cell2
    have bb_x14 := bb_14.cell3
    have bb_y14 := bb_14.cell4
    have bb_z14 := bb_14.cell5
    have qx_u14 := qx_14.cell0
    have qx_v14 := qx_14.cell1
    have qx_w14 := qx_14.cell2
    have qx_x14 := qx_14.cell3
    have qx_y14 := qx_14.cell4
    have qx_z14 := qx_14.cell5
    have qy_u14 := qy_14.cell0
    have qy_v14 := qy_14.cell1
    have qy_w14 := qy_14.cell2
    have qy_x14 := qy_14.cell3
    have qy_y14 := qy_14.cell4
    have qy_z14 := qy_14.cell5
    go_upto_region 8 with fail
    go_cut [9, 10] (fun sx sy wy => ∃ (Wpx : World) (gpx gpy : Nat) (pxu pyu : Rv), Wpx = wy ∧ sx = .pointer (some ⟨gpx, 0, none⟩) ∧ sy = .pointer (some ⟨gpy, 0, none⟩) ∧ Sq Wpx gpx (.bool pxu.s) (.slice pxu.A pxu.n pxu.c) (.slice pxu.B pxu.m pxu.d) ∧ Sq Wpx gpy (.bool pyu.s) (.slice pyu.A pyu.n pyu.c) (.slice pyu.B pyu.m pyu.d) ∧ w.heap.size ≠ gpx ∧ w.heap.size ≠ gpy ∧ w.heap.size + 1 ≠ gpx ∧ w.heap.size + 1 ≠ gpy ∧ gqx ≠ gpx ∧ gqx ≠ gpy ∧ gqy ≠ gpx ∧ gqy ≠ gpy ∧ Sv Wpx (w.heap.size) u v ∧ Sv Wpx (w.heap.size + 1) x y ∧ Sv Wpx (gqx) qxu qxv ∧ Sv Wpx (gqy) qyu qyv ∧ Cu Wpx u p ∧ Cu Wpx v q ∧ Cu Wpx x p' ∧ Cu Wpx y q' ∧ Cu Wpx qxu A1 ∧ Cu Wpx qxv B1 ∧ Cu Wpx qyu A2 ∧ Cu Wpx qyv B2 ∧ Cu Wpx pxu X ∧ Cu Wpx pyu Y ∧ Below w.heap.size w Wpx)
    case first =>
      have ltq_ba := ba_14.lt
      have ltq_bb := bb_14.lt
      have ltq_qx := qx_14.lt
      have ltq_qy := qy_14.lt
      have glq := F14.size
      have nq1_ : w.heap.size ≠ w14.heap.size := by omega
      have nq2_ := Ne.symm nq1_
      have nq3_ : w.heap.size ≠ w14.heap.size + 1 := by omega
      have nq4_ := Ne.symm nq3_
      have ku_15 := ku_14.drew
      have kv_15 := kv_14.drew
      have kx_15 := kx_14.drew
      have ky_15 := ky_14.drew
      have m1_15 := m1_14.drew
      have m2_15 := m2_14.drew
      have r1_15 := r1_14.drew
      have r2_15 := r2_14.drew
      have ba_15 := ba_14.drew
      have bb_15 := bb_14.drew
      have qx_15 := qx_14.drew
      have qy_15 := qy_14.drew
      have F15 := F14.drew
      have ku_y1 := ku_14.alloc EQ0
      have kv_y1 := kv_14.alloc EQ0
      have kx_y1 := kx_14.alloc EQ0
      have ky_y1 := ky_14.alloc EQ0
      have m1_y1 := m1_14.alloc EQ0
      have m2_y1 := m2_14.alloc EQ0
      have r1_y1 := r1_14.alloc EQ0
      have r2_y1 := r2_14.alloc EQ0
      have ba_y1 := ba_14.alloc EQ0
      have bb_y1 := bb_14.alloc EQ0
      have qx_y1 := qx_14.alloc EQ0
      have qy_y1 := qy_14.alloc EQ0
      have zq1 : Sq ((w14).alloc EQ0) (w14.heap.size) (.bool false) (.slice none 0 0) (.slice none 0 0) := by have h_ := Sq.new (w14) (.bool false) (.slice none 0 0) (.slice none 0 0); exact h_
      have F_y1 := F14.alloc F14.size EQ0
      have ku_d1 := ku_y1.drew
      have kv_d1 := kv_y1.drew
      have kx_d1 := kx_y1.drew
      have ky_d1 := ky_y1.drew
      have m1_d1 := m1_y1.drew
      have m2_d1 := m2_y1.drew
      have r1_d1 := r1_y1.drew
      have r2_d1 := r2_y1.drew
      have ba_d1 := ba_y1.drew
      have bb_d1 := bb_y1.drew
      have qx_d1 := qx_y1.drew
      have qy_d1 := qy_y1.drew
      have z1_d1 := zq1.drew
      have F_d1 := F_y1.drew
      have ku_y2 := ku_y1.alloc EQ0
      have kv_y2 := kv_y1.alloc EQ0
      have kx_y2 := kx_y1.alloc EQ0
      have ky_y2 := ky_y1.alloc EQ0
      have m1_y2 := m1_y1.alloc EQ0
      have m2_y2 := m2_y1.alloc EQ0
      have r1_y2 := r1_y1.alloc EQ0
      have r2_y2 := r2_y1.alloc EQ0
      have ba_y2 := ba_y1.alloc EQ0
      have bb_y2 := bb_y1.alloc EQ0
      have qx_y2 := qx_y1.alloc EQ0
      have qy_y2 := qy_y1.alloc EQ0
      have zq12 := zq1.alloc EQ0
      have zq2 : Sq (((w14).alloc EQ0).alloc EQ0) (w14.heap.size + 1) (.bool false) (.slice none 0 0) (.slice none 0 0) := by have h_ := Sq.new ((w14).alloc EQ0) (.bool false) (.slice none 0 0) (.slice none 0 0); simp only [World.size_alloc] at h_; exact h_
      have F_y2 := F_y1.alloc F_y1.size EQ0
      have ku_d2 := ku_y2.drew
      have kv_d2 := kv_y2.drew
      have kx_d2 := kx_y2.drew
      have ky_d2 := ky_y2.drew
      have m1_d2 := m1_y2.drew
      have m2_d2 := m2_y2.drew
      have r1_d2 := r1_y2.drew
      have r2_d2 := r2_y2.drew
      have ba_d2 := ba_y2.drew
      have bb_d2 := bb_y2.drew
      have qx_d2 := qx_y2.drew
      have qy_d2 := qy_y2.drew
      have z1_d2 := zq12.drew
      have z2_d2 := zq2.drew
      have F_d2 := F_y2.drew
      have lz1_ba := Nat.ne_of_lt ba_14.lt
      have ly1_ba := Ne.symm lz1_ba
      have lz1_bb := Nat.ne_of_lt bb_14.lt
      have ly1_bb := Ne.symm lz1_bb
      have lz1_qx := Nat.ne_of_lt qx_14.lt
      have ly1_qx := Ne.symm lz1_qx
      have lz1_qy := Nat.ne_of_lt qy_14.lt
      have ly1_qy := Ne.symm lz1_qy
      have lz2_ba : w.heap.size ≠ w14.heap.size + 1 := by omega
      have ly2_ba := Ne.symm lz2_ba
      have lz2_bb : w.heap.size + 1 ≠ w14.heap.size + 1 := by omega
      have ly2_bb := Ne.symm lz2_bb
      have lz2_qx : gqx ≠ w14.heap.size + 1 := by omega
      have ly2_qx := Ne.symm lz2_qx
      have lz2_qy : gqy ≠ w14.heap.size + 1 := by omega
      have ly2_qy := Ne.symm lz2_qy
      have gl1 : w.heap.size ≤ w14.heap.size := by have := F14.size; omega
      have gl2 : w.heap.size ≤ w14.heap.size + 1 := by have := F14.size; omega
      have lzz1_2 : w14.heap.size ≠ w14.heap.size + 1 := by omega
      have lyy1_2 := Ne.symm lzz1_2
      go_region_held3 (fun w' => w'.cell? ⟨w.heap.size, 0, none⟩ = some (.bool u.s) ∧ w'.cell? ⟨w.heap.size, 1, none⟩ = some (.slice u.A u.n u.c) ∧ w'.cell? ⟨w.heap.size, 2, none⟩ = some (.slice u.B u.m u.d) ∧ w'.cell? ⟨w.heap.size, 3, none⟩ = some (.bool v.s) ∧ w'.cell? ⟨w.heap.size, 4, none⟩ = some (.slice v.A v.n v.c) ∧ w'.cell? ⟨w.heap.size, 5, none⟩ = some (.slice v.B v.m v.d) ∧ w'.cell? ⟨w.heap.size + 1, 0, none⟩ = some (.bool x.s) ∧ w'.cell? ⟨w.heap.size + 1, 1, none⟩ = some (.slice x.A x.n x.c) ∧ w'.cell? ⟨w.heap.size + 1, 2, none⟩ = some (.slice x.B x.m x.d) ∧ w'.cell? ⟨w.heap.size + 1, 3, none⟩ = some (.bool y.s) ∧ w'.cell? ⟨w.heap.size + 1, 4, none⟩ = some (.slice y.A y.n y.c) ∧ w'.cell? ⟨w.heap.size + 1, 5, none⟩ = some (.slice y.B y.m y.d) ∧ w'.cell? ⟨gqx, 0, none⟩ = some (.bool qxu.s) ∧ w'.cell? ⟨gqx, 1, none⟩ = some (.slice qxu.A qxu.n qxu.c) ∧ w'.cell? ⟨gqx, 2, none⟩ = some (.slice qxu.B qxu.m qxu.d) ∧ w'.cell? ⟨gqx, 3, none⟩ = some (.bool qxv.s) ∧ w'.cell? ⟨gqx, 4, none⟩ = some (.slice qxv.A qxv.n qxv.c) ∧ w'.cell? ⟨gqx, 5, none⟩ = some (.slice qxv.B qxv.m qxv.d) ∧ w'.cell? ⟨gqy, 0, none⟩ = some (.bool qyu.s) ∧ w'.cell? ⟨gqy, 1, none⟩ = some (.slice qyu.A qyu.n qyu.c) ∧ w'.cell? ⟨gqy, 2, none⟩ = some (.slice qyu.B qyu.m qyu.d) ∧ w'.cell? ⟨gqy, 3, none⟩ = some (.bool qyv.s) ∧ w'.cell? ⟨gqy, 4, none⟩ = some (.slice qyv.A qyv.n qyv.c) ∧ w'.cell? ⟨gqy, 5, none⟩ = some (.slice qyv.B qyv.m qyv.d))
        (first
          | with_reducible exact ⟨((ba_17.alloc EQ0).alloc EQ0).cell0, ((ba_17.alloc EQ0).alloc EQ0).cell1, ((ba_17.alloc EQ0).alloc EQ0).cell2, ((ba_17.alloc EQ0).alloc EQ0).cell3, ((ba_17.alloc EQ0).alloc EQ0).cell4, ((ba_17.alloc EQ0).alloc EQ0).cell5, ((bb_17.alloc EQ0).alloc EQ0).cell0, ((bb_17.alloc EQ0).alloc EQ0).cell1, ((bb_17.alloc EQ0).alloc EQ0).cell2, ((bb_17.alloc EQ0).alloc EQ0).cell3, ((bb_17.alloc EQ0).alloc EQ0).cell4, ((bb_17.alloc EQ0).alloc EQ0).cell5, ((qx_17.alloc EQ0).alloc EQ0).cell0, ((qx_17.alloc EQ0).alloc EQ0).cell1, ((qx_17.alloc EQ0).alloc EQ0).cell2, ((qx_17.alloc EQ0).alloc EQ0).cell3, ((qx_17.alloc EQ0).alloc EQ0).cell4, ((qx_17.alloc EQ0).alloc EQ0).cell5, ((qy_17.alloc EQ0).alloc EQ0).cell0, ((qy_17.alloc EQ0).alloc EQ0).cell1, ((qy_17.alloc EQ0).alloc EQ0).cell2, ((qy_17.alloc EQ0).alloc EQ0).cell3, ((qy_17.alloc EQ0).alloc EQ0).cell4, ((qy_17.alloc EQ0).alloc EQ0).cell5⟩
          | with_reducible exact ⟨(ba_17.alloc EQ0).cell0, (ba_17.alloc EQ0).cell1, (ba_17.alloc EQ0).cell2, (ba_17.alloc EQ0).cell3, (ba_17.alloc EQ0).cell4, (ba_17.alloc EQ0).cell5, (bb_17.alloc EQ0).cell0, (bb_17.alloc EQ0).cell1, (bb_17.alloc EQ0).cell2, (bb_17.alloc EQ0).cell3, (bb_17.alloc EQ0).cell4, (bb_17.alloc EQ0).cell5, (qx_17.alloc EQ0).cell0, (qx_17.alloc EQ0).cell1, (qx_17.alloc EQ0).cell2, (qx_17.alloc EQ0).cell3, (qx_17.alloc EQ0).cell4, (qx_17.alloc EQ0).cell5, (qy_17.alloc EQ0).cell0, (qy_17.alloc EQ0).cell1, (qy_17.alloc EQ0).cell2, (qy_17.alloc EQ0).cell3, (qy_17.alloc EQ0).cell4, (qy_17.alloc EQ0).cell5⟩
          | with_reducible exact ⟨ba_17.cell0, ba_17.cell1, ba_17.cell2, ba_17.cell3, ba_17.cell4, ba_17.cell5, bb_17.cell0, bb_17.cell1, bb_17.cell2, bb_17.cell3, bb_17.cell4, bb_17.cell5, qx_17.cell0, qx_17.cell1, qx_17.cell2, qx_17.cell3, qx_17.cell4, qx_17.cell5, qy_17.cell0, qy_17.cell1, qy_17.cell2, qy_17.cell3, qy_17.cell4, qy_17.cell5⟩
          | with_reducible exact ⟨((ba_16.alloc EQ0).alloc EQ0).cell0, ((ba_16.alloc EQ0).alloc EQ0).cell1, ((ba_16.alloc EQ0).alloc EQ0).cell2, ((ba_16.alloc EQ0).alloc EQ0).cell3, ((ba_16.alloc EQ0).alloc EQ0).cell4, ((ba_16.alloc EQ0).alloc EQ0).cell5, ((bb_16.alloc EQ0).alloc EQ0).cell0, ((bb_16.alloc EQ0).alloc EQ0).cell1, ((bb_16.alloc EQ0).alloc EQ0).cell2, ((bb_16.alloc EQ0).alloc EQ0).cell3, ((bb_16.alloc EQ0).alloc EQ0).cell4, ((bb_16.alloc EQ0).alloc EQ0).cell5, ((qx_16.alloc EQ0).alloc EQ0).cell0, ((qx_16.alloc EQ0).alloc EQ0).cell1, ((qx_16.alloc EQ0).alloc EQ0).cell2, ((qx_16.alloc EQ0).alloc EQ0).cell3, ((qx_16.alloc EQ0).alloc EQ0).cell4, ((qx_16.alloc EQ0).alloc EQ0).cell5, ((qy_16.alloc EQ0).alloc EQ0).cell0, ((qy_16.alloc EQ0).alloc EQ0).cell1, ((qy_16.alloc EQ0).alloc EQ0).cell2, ((qy_16.alloc EQ0).alloc EQ0).cell3, ((qy_16.alloc EQ0).alloc EQ0).cell4, ((qy_16.alloc EQ0).alloc EQ0).cell5⟩
          | with_reducible exact ⟨(ba_16.alloc EQ0).cell0, (ba_16.alloc EQ0).cell1, (ba_16.alloc EQ0).cell2, (ba_16.alloc EQ0).cell3, (ba_16.alloc EQ0).cell4, (ba_16.alloc EQ0).cell5, (bb_16.alloc EQ0).cell0, (bb_16.alloc EQ0).cell1, (bb_16.alloc EQ0).cell2, (bb_16.alloc EQ0).cell3, (bb_16.alloc EQ0).cell4, (bb_16.alloc EQ0).cell5, (qx_16.alloc EQ0).cell0, (qx_16.alloc EQ0).cell1, (qx_16.alloc EQ0).cell2, (qx_16.alloc EQ0).cell3, (qx_16.alloc EQ0).cell4, (qx_16.alloc EQ0).cell5, (qy_16.alloc EQ0).cell0, (qy_16.alloc EQ0).cell1, (qy_16.alloc EQ0).cell2, (qy_16.alloc EQ0).cell3, (qy_16.alloc EQ0).cell4, (qy_16.alloc EQ0).cell5⟩
          | with_reducible exact ⟨ba_16.cell0, ba_16.cell1, ba_16.cell2, ba_16.cell3, ba_16.cell4, ba_16.cell5, bb_16.cell0, bb_16.cell1, bb_16.cell2, bb_16.cell3, bb_16.cell4, bb_16.cell5, qx_16.cell0, qx_16.cell1, qx_16.cell2, qx_16.cell3, qx_16.cell4, qx_16.cell5, qy_16.cell0, qy_16.cell1, qy_16.cell2, qy_16.cell3, qy_16.cell4, qy_16.cell5⟩
          | with_reducible exact ⟨ba_d2.cell0, ba_d2.cell1, ba_d2.cell2, ba_d2.cell3, ba_d2.cell4, ba_d2.cell5, bb_d2.cell0, bb_d2.cell1, bb_d2.cell2, bb_d2.cell3, bb_d2.cell4, bb_d2.cell5, qx_d2.cell0, qx_d2.cell1, qx_d2.cell2, qx_d2.cell3, qx_d2.cell4, qx_d2.cell5, qy_d2.cell0, qy_d2.cell1, qy_d2.cell2, qy_d2.cell3, qy_d2.cell4, qy_d2.cell5⟩
          | with_reducible exact ⟨ba_d1.cell0, ba_d1.cell1, ba_d1.cell2, ba_d1.cell3, ba_d1.cell4, ba_d1.cell5, bb_d1.cell0, bb_d1.cell1, bb_d1.cell2, bb_d1.cell3, bb_d1.cell4, bb_d1.cell5, qx_d1.cell0, qx_d1.cell1, qx_d1.cell2, qx_d1.cell3, qx_d1.cell4, qx_d1.cell5, qy_d1.cell0, qy_d1.cell1, qy_d1.cell2, qy_d1.cell3, qy_d1.cell4, qy_d1.cell5⟩
          | with_reducible exact ⟨ba_15.cell0, ba_15.cell1, ba_15.cell2, ba_15.cell3, ba_15.cell4, ba_15.cell5, bb_15.cell0, bb_15.cell1, bb_15.cell2, bb_15.cell3, bb_15.cell4, bb_15.cell5, qx_15.cell0, qx_15.cell1, qx_15.cell2, qx_15.cell3, qx_15.cell4, qx_15.cell5, qy_15.cell0, qy_15.cell1, qy_15.cell2, qy_15.cell3, qy_15.cell4, qy_15.cell5⟩
          | go_keep
          | fail)
        (first
          | (go_at_call 25; (with_reducible refine (at_e _ _ p q X _ (o % 256) _ (by first | exact w1 | rfl) HX.out HK1.out ku_15 kv_15 p9 q9).mono ?_); rintro e w16 ⟨u16, rfl, x1, b16⟩; have ku_16 := ku_15.below b16; have kv_16 := kv_15.below b16; have kx_16 := kx_15.below b16; have ky_16 := ky_15.below b16; have m1_16 := m1_15.below b16; have m2_16 := m2_15.below b16; have r1_16 := r1_15.below b16; have r2_16 := r2_15.below b16; have ba_16 := ba_15.below b16 ba_15.lt; have bb_16 := bb_15.below b16 bb_15.lt; have qx_16 := qx_15.below b16 qx_15.lt; have qy_16 := qy_15.below b16 qy_15.lt; have F16 := below_then F15 (Nat.le_refl _) b16)
          | (go_at_call 25; (with_reducible refine (at_e _ _ p q X _ (o % 256) _ (by first | exact w1 | rfl) HX.out HK1.out ku_d1 kv_d1 p9 q9).mono ?_); rintro e w16 ⟨u16, rfl, x1, b16⟩; have ku_16 := ku_d1.below b16; have kv_16 := kv_d1.below b16; have kx_16 := kx_d1.below b16; have ky_16 := ky_d1.below b16; have m1_16 := m1_d1.below b16; have m2_16 := m2_d1.below b16; have r1_16 := r1_d1.below b16; have r2_16 := r2_d1.below b16; have ba_16 := ba_d1.below b16 ba_d1.lt; have bb_16 := bb_d1.below b16 bb_d1.lt; have qx_16 := qx_d1.below b16 qx_d1.lt; have qy_16 := qy_d1.below b16 qy_d1.lt; have z1_16 := z1_d1.below b16 z1_d1.lt; have F16 := below_then F_d1 (Nat.le_refl _) b16)
          | (go_at_call 25; (with_reducible refine (at_e _ _ p q X _ (o % 256) _ (by first | exact w1 | rfl) HX.out HK1.out ku_d2 kv_d2 p9 q9).mono ?_); rintro e w16 ⟨u16, rfl, x1, b16⟩; have ku_16 := ku_d2.below b16; have kv_16 := kv_d2.below b16; have kx_16 := kx_d2.below b16; have ky_16 := ky_d2.below b16; have m1_16 := m1_d2.below b16; have m2_16 := m2_d2.below b16; have r1_16 := r1_d2.below b16; have r2_16 := r2_d2.below b16; have ba_16 := ba_d2.below b16 ba_d2.lt; have bb_16 := bb_d2.below b16 bb_d2.lt; have qx_16 := qx_d2.below b16 qx_d2.lt; have qy_16 := qy_d2.below b16 qy_d2.lt; have z1_16 := z1_d2.below b16 z1_d2.lt; have z2_16 := z2_d2.below b16 z2_d2.lt; have F16 := below_then F_d2 (Nat.le_refl _) b16)
          | (go_at_call 25; (with_reducible refine (at_e _ _ p' q' Y _ (o / 256) _ (by first | exact w2 | rfl) HY.out HK2.out kx_16 ky_16 p9' q9').mono ?_); rintro e w17 ⟨u17, rfl, y1, b17⟩; have ku_17 := ku_16.below b17; have kv_17 := kv_16.below b17; have kx_17 := kx_16.below b17; have ky_17 := ky_16.below b17; have m1_17 := m1_16.below b17; have m2_17 := m2_16.below b17; have r1_17 := r1_16.below b17; have r2_17 := r2_16.below b17; have x1_17 := x1.below b17; have ba_17 := ba_16.below b17 ba_16.lt; have bb_17 := bb_16.below b17 bb_16.lt; have qx_17 := qx_16.below b17 qx_16.lt; have qy_17 := qy_16.below b17 qy_16.lt; have z1_17 := z1_16.below b17 z1_16.lt; have z2_17 := z2_16.below b17 z2_16.lt; have zk0_0 := z1_17.cell0; have zf0_0 := z1_17.frozen 0; have zk0_1 := z1_17.cell1; have zf0_1 := z1_17.frozen 1; have zk0_2 := z1_17.cell2; have zf0_2 := z1_17.frozen 2; have zk1_0 := z2_17.cell0; have zf1_0 := z2_17.frozen 0; have zk1_1 := z2_17.cell1; have zf1_1 := z2_17.frozen 1; have zk1_2 := z2_17.cell2; have zf1_2 := z2_17.frozen 2; have F17 := below_then F16 (Nat.le_refl _) b17; have kl_ba := ba_17.lt; have km_ba := Nat.ne_of_lt ba_17.lt; have kn_ba := Nat.ne_of_gt ba_17.lt; have kc_ba0 := ba_17.cell0; have kc_ba1 := ba_17.cell1; have kc_ba2 := ba_17.cell2; have kc_ba3 := ba_17.cell3; have kc_ba4 := ba_17.cell4; have kc_ba5 := ba_17.cell5; have kl_bb := bb_17.lt; have km_bb := Nat.ne_of_lt bb_17.lt; have kn_bb := Nat.ne_of_gt bb_17.lt; have kc_bb0 := bb_17.cell0; have kc_bb1 := bb_17.cell1; have kc_bb2 := bb_17.cell2; have kc_bb3 := bb_17.cell3; have kc_bb4 := bb_17.cell4; have kc_bb5 := bb_17.cell5; have kl_qx := qx_17.lt; have km_qx := Nat.ne_of_lt qx_17.lt; have kn_qx := Nat.ne_of_gt qx_17.lt; have kc_qx0 := qx_17.cell0; have kc_qx1 := qx_17.cell1; have kc_qx2 := qx_17.cell2; have kc_qx3 := qx_17.cell3; have kc_qx4 := qx_17.cell4; have kc_qx5 := qx_17.cell5; have kl_qy := qy_17.lt; have km_qy := Nat.ne_of_lt qy_17.lt; have kn_qy := Nat.ne_of_gt qy_17.lt; have kc_qy0 := qy_17.cell0; have kc_qy1 := qy_17.cell1; have kc_qy2 := qy_17.cell2; have kc_qy3 := qy_17.cell3; have kc_qy4 := qy_17.cell4; have kc_qy5 := qy_17.cell5; have kl0 := z1_17.lt; have km0 := Nat.ne_of_lt z1_17.lt; have kn0 := Nat.ne_of_gt z1_17.lt; have kl1 := z2_17.lt; have km1 := Nat.ne_of_lt z2_17.lt; have kn1 := Nat.ne_of_gt z2_17.lt)
          | (go_at_call 25; (with_reducible refine (at_e _ _ p' q' Y _ (o / 256) _ (by first | exact w2 | rfl) HY.out HK2.out kx_16 ky_16 p9' q9').mono ?_); rintro e w17 ⟨u17, rfl, y1, b17⟩; have ku_17 := ku_16.below b17; have kv_17 := kv_16.below b17; have kx_17 := kx_16.below b17; have ky_17 := ky_16.below b17; have m1_17 := m1_16.below b17; have m2_17 := m2_16.below b17; have r1_17 := r1_16.below b17; have r2_17 := r2_16.below b17; have x1_17 := x1.below b17; have ba_17 := ba_16.below b17 ba_16.lt; have bb_17 := bb_16.below b17 bb_16.lt; have qx_17 := qx_16.below b17 qx_16.lt; have qy_17 := qy_16.below b17 qy_16.lt; have z1_17 := z1_16.below b17 z1_16.lt; have zk0_0 := z1_17.cell0; have zf0_0 := z1_17.frozen 0; have zk0_1 := z1_17.cell1; have zf0_1 := z1_17.frozen 1; have zk0_2 := z1_17.cell2; have zf0_2 := z1_17.frozen 2; have F17 := below_then F16 (Nat.le_refl _) b17; have kl_ba := ba_17.lt; have km_ba := Nat.ne_of_lt ba_17.lt; have kn_ba := Nat.ne_of_gt ba_17.lt; have kc_ba0 := ba_17.cell0; have kc_ba1 := ba_17.cell1; have kc_ba2 := ba_17.cell2; have kc_ba3 := ba_17.cell3; have kc_ba4 := ba_17.cell4; have kc_ba5 := ba_17.cell5; have kl_bb := bb_17.lt; have km_bb := Nat.ne_of_lt bb_17.lt; have kn_bb := Nat.ne_of_gt bb_17.lt; have kc_bb0 := bb_17.cell0; have kc_bb1 := bb_17.cell1; have kc_bb2 := bb_17.cell2; have kc_bb3 := bb_17.cell3; have kc_bb4 := bb_17.cell4; have kc_bb5 := bb_17.cell5; have kl_qx := qx_17.lt; have km_qx := Nat.ne_of_lt qx_17.lt; have kn_qx := Nat.ne_of_gt qx_17.lt; have kc_qx0 := qx_17.cell0; have kc_qx1 := qx_17.cell1; have kc_qx2 := qx_17.cell2; have kc_qx3 := qx_17.cell3; have kc_qx4 := qx_17.cell4; have kc_qx5 := qx_17.cell5; have kl_qy := qy_17.lt; have km_qy := Nat.ne_of_lt qy_17.lt; have kn_qy := Nat.ne_of_gt qy_17.lt; have kc_qy0 := qy_17.cell0; have kc_qy1 := qy_17.cell1; have kc_qy2 := qy_17.cell2; have kc_qy3 := qy_17.cell3; have kc_qy4 := qy_17.cell4; have kc_qy5 := qy_17.cell5; have kl0 := z1_17.lt; have km0 := Nat.ne_of_lt z1_17.lt; have kn0 := Nat.ne_of_gt z1_17.lt)
          | (have qx_ba := ba_16.lt; have qx_bb := bb_16.lt; have qx_qx := qx_16.lt; have qx_qy := qy_16.lt; have qz_z1_16 := z1_16.lt; have lz2_ba : w.heap.size ≠ w16.heap.size := (by omega); have ly2_ba := Ne.symm lz2_ba; have lz2_bb : w.heap.size + 1 ≠ w16.heap.size := (by omega); have ly2_bb := Ne.symm lz2_bb; have lz2_qx : gqx ≠ w16.heap.size := (by omega); have ly2_qx := Ne.symm lz2_qx; have lz2_qy : gqy ≠ w16.heap.size := (by omega); have ly2_qy := Ne.symm lz2_qy; have gl2 : w.heap.size ≤ w16.heap.size := (by have := F16.size; omega); have lzz1_2 := Nat.ne_of_lt (Nat.lt_of_lt_of_le qz_z1_16 (show w16.heap.size ≤ w16.heap.size by omega)); have lyy1_2 := Ne.symm lzz1_2; have ku_16a := ku_16.alloc EQ0; have kv_16a := kv_16.alloc EQ0; have kx_16a := kx_16.alloc EQ0; have ky_16a := ky_16.alloc EQ0; have m1_16a := m1_16.alloc EQ0; have m2_16a := m2_16.alloc EQ0; have r1_16a := r1_16.alloc EQ0; have r2_16a := r2_16.alloc EQ0; have x1_16a := x1.alloc EQ0; have ba_16a := ba_16.alloc EQ0; have bb_16a := bb_16.alloc EQ0; have qx_16a := qx_16.alloc EQ0; have qy_16a := qy_16.alloc EQ0; have z1_16a := z1_16.alloc EQ0; have z2_16a : Sq ((w16).alloc EQ0) (w16.heap.size) (.bool false) (.slice none 0 0) (.slice none 0 0) := (by (have h_ := Sq.new (w16) (.bool false) (.slice none 0 0) (.slice none 0 0); exact h_)); have F_16a := F16.alloc F16.size EQ0; go_at_call 25; (with_reducible refine (at_e _ _ p' q' Y _ (o / 256) _ (by first | exact w2 | rfl) HY.out HK2.out kx_16a ky_16a p9' q9').mono ?_); rintro e w17 ⟨u17, rfl, y1, b17⟩; have ku_17 := ku_16a.below b17; have kv_17 := kv_16a.below b17; have kx_17 := kx_16a.below b17; have ky_17 := ky_16a.below b17; have m1_17 := m1_16a.below b17; have m2_17 := m2_16a.below b17; have r1_17 := r1_16a.below b17; have r2_17 := r2_16a.below b17; have x1_17 := x1_16a.below b17; have ba_17 := ba_16a.below b17 ba_16a.lt; have bb_17 := bb_16a.below b17 bb_16a.lt; have qx_17 := qx_16a.below b17 qx_16a.lt; have qy_17 := qy_16a.below b17 qy_16a.lt; have z1_17 := z1_16a.below b17 z1_16a.lt; have z2_17 := z2_16a.below b17 z2_16a.lt; have zk0_0 := z1_17.cell0; have zf0_0 := z1_17.frozen 0; have zk0_1 := z1_17.cell1; have zf0_1 := z1_17.frozen 1; have zk0_2 := z1_17.cell2; have zf0_2 := z1_17.frozen 2; have zk1_0 := z2_17.cell0; have zf1_0 := z2_17.frozen 0; have zk1_1 := z2_17.cell1; have zf1_1 := z2_17.frozen 1; have zk1_2 := z2_17.cell2; have zf1_2 := z2_17.frozen 2; have F17 := below_then F_16a (Nat.le_refl _) b17; have kl_ba := ba_17.lt; have km_ba := Nat.ne_of_lt ba_17.lt; have kn_ba := Nat.ne_of_gt ba_17.lt; have kc_ba0 := ba_17.cell0; have kc_ba1 := ba_17.cell1; have kc_ba2 := ba_17.cell2; have kc_ba3 := ba_17.cell3; have kc_ba4 := ba_17.cell4; have kc_ba5 := ba_17.cell5; have kl_bb := bb_17.lt; have km_bb := Nat.ne_of_lt bb_17.lt; have kn_bb := Nat.ne_of_gt bb_17.lt; have kc_bb0 := bb_17.cell0; have kc_bb1 := bb_17.cell1; have kc_bb2 := bb_17.cell2; have kc_bb3 := bb_17.cell3; have kc_bb4 := bb_17.cell4; have kc_bb5 := bb_17.cell5; have kl_qx := qx_17.lt; have km_qx := Nat.ne_of_lt qx_17.lt; have kn_qx := Nat.ne_of_gt qx_17.lt; have kc_qx0 := qx_17.cell0; have kc_qx1 := qx_17.cell1; have kc_qx2 := qx_17.cell2; have kc_qx3 := qx_17.cell3; have kc_qx4 := qx_17.cell4; have kc_qx5 := qx_17.cell5; have kl_qy := qy_17.lt; have km_qy := Nat.ne_of_lt qy_17.lt; have kn_qy := Nat.ne_of_gt qy_17.lt; have kc_qy0 := qy_17.cell0; have kc_qy1 := qy_17.cell1; have kc_qy2 := qy_17.cell2; have kc_qy3 := qy_17.cell3; have kc_qy4 := qy_17.cell4; have kc_qy5 := qy_17.cell5; have kl0 := z1_17.lt; have km0 := Nat.ne_of_lt z1_17.lt; have kn0 := Nat.ne_of_gt z1_17.lt; have kl1 := z2_17.lt; have km1 := Nat.ne_of_lt z2_17.lt; have kn1 := Nat.ne_of_gt z2_17.lt)
          | (go_at_call 25; (with_reducible refine (at_e _ _ p' q' Y _ (o / 256) _ (by first | exact w2 | rfl) HY.out HK2.out kx_16 ky_16 p9' q9').mono ?_); rintro e w17 ⟨u17, rfl, y1, b17⟩; have ku_17 := ku_16.below b17; have kv_17 := kv_16.below b17; have kx_17 := kx_16.below b17; have ky_17 := ky_16.below b17; have m1_17 := m1_16.below b17; have m2_17 := m2_16.below b17; have r1_17 := r1_16.below b17; have r2_17 := r2_16.below b17; have x1_17 := x1.below b17; have ba_17 := ba_16.below b17 ba_16.lt; have bb_17 := bb_16.below b17 bb_16.lt; have qx_17 := qx_16.below b17 qx_16.lt; have qy_17 := qy_16.below b17 qy_16.lt; have F17 := below_then F16 (Nat.le_refl _) b17; have kl_ba := ba_17.lt; have km_ba := Nat.ne_of_lt ba_17.lt; have kn_ba := Nat.ne_of_gt ba_17.lt; have kc_ba0 := ba_17.cell0; have kc_ba1 := ba_17.cell1; have kc_ba2 := ba_17.cell2; have kc_ba3 := ba_17.cell3; have kc_ba4 := ba_17.cell4; have kc_ba5 := ba_17.cell5; have kl_bb := bb_17.lt; have km_bb := Nat.ne_of_lt bb_17.lt; have kn_bb := Nat.ne_of_gt bb_17.lt; have kc_bb0 := bb_17.cell0; have kc_bb1 := bb_17.cell1; have kc_bb2 := bb_17.cell2; have kc_bb3 := bb_17.cell3; have kc_bb4 := bb_17.cell4; have kc_bb5 := bb_17.cell5; have kl_qx := qx_17.lt; have km_qx := Nat.ne_of_lt qx_17.lt; have kn_qx := Nat.ne_of_gt qx_17.lt; have kc_qx0 := qx_17.cell0; have kc_qx1 := qx_17.cell1; have kc_qx2 := qx_17.cell2; have kc_qx3 := qx_17.cell3; have kc_qx4 := qx_17.cell4; have kc_qx5 := qx_17.cell5; have kl_qy := qy_17.lt; have km_qy := Nat.ne_of_lt qy_17.lt; have kn_qy := Nat.ne_of_gt qy_17.lt; have kc_qy0 := qy_17.cell0; have kc_qy1 := qy_17.cell1; have kc_qy2 := qy_17.cell2; have kc_qy3 := qy_17.cell3; have kc_qy4 := qy_17.cell4; have kc_qy5 := qy_17.cell5)
          | (have qx_ba := ba_16.lt; have qx_bb := bb_16.lt; have qx_qx := qx_16.lt; have qx_qy := qy_16.lt; have lz1_ba : w.heap.size ≠ w16.heap.size := (by omega); have ly1_ba := Ne.symm lz1_ba; have lz1_bb : w.heap.size + 1 ≠ w16.heap.size := (by omega); have ly1_bb := Ne.symm lz1_bb; have lz1_qx : gqx ≠ w16.heap.size := (by omega); have ly1_qx := Ne.symm lz1_qx; have lz1_qy : gqy ≠ w16.heap.size := (by omega); have ly1_qy := Ne.symm lz1_qy; have gl1 : w.heap.size ≤ w16.heap.size := (by have := F16.size; omega); have ku_16a := ku_16.alloc EQ0; have kv_16a := kv_16.alloc EQ0; have kx_16a := kx_16.alloc EQ0; have ky_16a := ky_16.alloc EQ0; have m1_16a := m1_16.alloc EQ0; have m2_16a := m2_16.alloc EQ0; have r1_16a := r1_16.alloc EQ0; have r2_16a := r2_16.alloc EQ0; have x1_16a := x1.alloc EQ0; have ba_16a := ba_16.alloc EQ0; have bb_16a := bb_16.alloc EQ0; have qx_16a := qx_16.alloc EQ0; have qy_16a := qy_16.alloc EQ0; have z1_16a : Sq ((w16).alloc EQ0) (w16.heap.size) (.bool false) (.slice none 0 0) (.slice none 0 0) := (by (have h_ := Sq.new (w16) (.bool false) (.slice none 0 0) (.slice none 0 0); exact h_)); have F_16a := F16.alloc F16.size EQ0; go_at_call 25; (with_reducible refine (at_e _ _ p' q' Y _ (o / 256) _ (by first | exact w2 | rfl) HY.out HK2.out kx_16a ky_16a p9' q9').mono ?_); rintro e w17 ⟨u17, rfl, y1, b17⟩; have ku_17 := ku_16a.below b17; have kv_17 := kv_16a.below b17; have kx_17 := kx_16a.below b17; have ky_17 := ky_16a.below b17; have m1_17 := m1_16a.below b17; have m2_17 := m2_16a.below b17; have r1_17 := r1_16a.below b17; have r2_17 := r2_16a.below b17; have x1_17 := x1_16a.below b17; have ba_17 := ba_16a.below b17 ba_16a.lt; have bb_17 := bb_16a.below b17 bb_16a.lt; have qx_17 := qx_16a.below b17 qx_16a.lt; have qy_17 := qy_16a.below b17 qy_16a.lt; have z1_17 := z1_16a.below b17 z1_16a.lt; have zk0_0 := z1_17.cell0; have zf0_0 := z1_17.frozen 0; have zk0_1 := z1_17.cell1; have zf0_1 := z1_17.frozen 1; have zk0_2 := z1_17.cell2; have zf0_2 := z1_17.frozen 2; have F17 := below_then F_16a (Nat.le_refl _) b17; have kl_ba := ba_17.lt; have km_ba := Nat.ne_of_lt ba_17.lt; have kn_ba := Nat.ne_of_gt ba_17.lt; have kc_ba0 := ba_17.cell0; have kc_ba1 := ba_17.cell1; have kc_ba2 := ba_17.cell2; have kc_ba3 := ba_17.cell3; have kc_ba4 := ba_17.cell4; have kc_ba5 := ba_17.cell5; have kl_bb := bb_17.lt; have km_bb := Nat.ne_of_lt bb_17.lt; have kn_bb := Nat.ne_of_gt bb_17.lt; have kc_bb0 := bb_17.cell0; have kc_bb1 := bb_17.cell1; have kc_bb2 := bb_17.cell2; have kc_bb3 := bb_17.cell3; have kc_bb4 := bb_17.cell4; have kc_bb5 := bb_17.cell5; have kl_qx := qx_17.lt; have km_qx := Nat.ne_of_lt qx_17.lt; have kn_qx := Nat.ne_of_gt qx_17.lt; have kc_qx0 := qx_17.cell0; have kc_qx1 := qx_17.cell1; have kc_qx2 := qx_17.cell2; have kc_qx3 := qx_17.cell3; have kc_qx4 := qx_17.cell4; have kc_qx5 := qx_17.cell5; have kl_qy := qy_17.lt; have km_qy := Nat.ne_of_lt qy_17.lt; have kn_qy := Nat.ne_of_gt qy_17.lt; have kc_qy0 := qy_17.cell0; have kc_qy1 := qy_17.cell1; have kc_qy2 := qy_17.cell2; have kc_qy3 := qy_17.cell3; have kc_qy4 := qy_17.cell4; have kc_qy5 := qy_17.cell5; have kl0 := z1_17.lt; have km0 := Nat.ne_of_lt z1_17.lt; have kn0 := Nat.ne_of_gt z1_17.lt)
          | (have qx_ba := ba_16.lt; have qx_bb := bb_16.lt; have qx_qx := qx_16.lt; have qx_qy := qy_16.lt; have lz1_ba : w.heap.size ≠ w16.heap.size := (by omega); have ly1_ba := Ne.symm lz1_ba; have lz1_bb : w.heap.size + 1 ≠ w16.heap.size := (by omega); have ly1_bb := Ne.symm lz1_bb; have lz1_qx : gqx ≠ w16.heap.size := (by omega); have ly1_qx := Ne.symm lz1_qx; have lz1_qy : gqy ≠ w16.heap.size := (by omega); have ly1_qy := Ne.symm lz1_qy; have gl1 : w.heap.size ≤ w16.heap.size := (by have := F16.size; omega); have ku_16a := ku_16.alloc EQ0; have kv_16a := kv_16.alloc EQ0; have kx_16a := kx_16.alloc EQ0; have ky_16a := ky_16.alloc EQ0; have m1_16a := m1_16.alloc EQ0; have m2_16a := m2_16.alloc EQ0; have r1_16a := r1_16.alloc EQ0; have r2_16a := r2_16.alloc EQ0; have x1_16a := x1.alloc EQ0; have ba_16a := ba_16.alloc EQ0; have bb_16a := bb_16.alloc EQ0; have qx_16a := qx_16.alloc EQ0; have qy_16a := qy_16.alloc EQ0; have z1_16a : Sq ((w16).alloc EQ0) (w16.heap.size) (.bool false) (.slice none 0 0) (.slice none 0 0) := (by (have h_ := Sq.new (w16) (.bool false) (.slice none 0 0) (.slice none 0 0); exact h_)); have F_16a := F16.alloc F16.size EQ0; have lz2_ba : w.heap.size ≠ w16.heap.size + 1 := (by omega); have ly2_ba := Ne.symm lz2_ba; have lz2_bb : w.heap.size + 1 ≠ w16.heap.size + 1 := (by omega); have ly2_bb := Ne.symm lz2_bb; have lz2_qx : gqx ≠ w16.heap.size + 1 := (by omega); have ly2_qx := Ne.symm lz2_qx; have lz2_qy : gqy ≠ w16.heap.size + 1 := (by omega); have ly2_qy := Ne.symm lz2_qy; have gl2 : w.heap.size ≤ w16.heap.size + 1 := (by have := F16.size; omega); have lzz1_2 : w16.heap.size ≠ w16.heap.size + 1 := (by omega); have lyy1_2 := Ne.symm lzz1_2; have ku_16b := ku_16a.alloc EQ0; have kv_16b := kv_16a.alloc EQ0; have kx_16b := kx_16a.alloc EQ0; have ky_16b := ky_16a.alloc EQ0; have m1_16b := m1_16a.alloc EQ0; have m2_16b := m2_16a.alloc EQ0; have r1_16b := r1_16a.alloc EQ0; have r2_16b := r2_16a.alloc EQ0; have x1_16b := x1_16a.alloc EQ0; have ba_16b := ba_16a.alloc EQ0; have bb_16b := bb_16a.alloc EQ0; have qx_16b := qx_16a.alloc EQ0; have qy_16b := qy_16a.alloc EQ0; have z1_16b := z1_16a.alloc EQ0; have z2_16b : Sq (((w16).alloc EQ0).alloc EQ0) (w16.heap.size + 1) (.bool false) (.slice none 0 0) (.slice none 0 0) := (by (have h_ := Sq.new ((w16).alloc EQ0) (.bool false) (.slice none 0 0) (.slice none 0 0); simp only [World.size_alloc] at h_; exact h_)); have F_16b := F_16a.alloc F_16a.size EQ0; go_at_call 25; (with_reducible refine (at_e _ _ p' q' Y _ (o / 256) _ (by first | exact w2 | rfl) HY.out HK2.out kx_16b ky_16b p9' q9').mono ?_); rintro e w17 ⟨u17, rfl, y1, b17⟩; have ku_17 := ku_16b.below b17; have kv_17 := kv_16b.below b17; have kx_17 := kx_16b.below b17; have ky_17 := ky_16b.below b17; have m1_17 := m1_16b.below b17; have m2_17 := m2_16b.below b17; have r1_17 := r1_16b.below b17; have r2_17 := r2_16b.below b17; have x1_17 := x1_16b.below b17; have ba_17 := ba_16b.below b17 ba_16b.lt; have bb_17 := bb_16b.below b17 bb_16b.lt; have qx_17 := qx_16b.below b17 qx_16b.lt; have qy_17 := qy_16b.below b17 qy_16b.lt; have z1_17 := z1_16b.below b17 z1_16b.lt; have z2_17 := z2_16b.below b17 z2_16b.lt; have zk0_0 := z1_17.cell0; have zf0_0 := z1_17.frozen 0; have zk0_1 := z1_17.cell1; have zf0_1 := z1_17.frozen 1; have zk0_2 := z1_17.cell2; have zf0_2 := z1_17.frozen 2; have zk1_0 := z2_17.cell0; have zf1_0 := z2_17.frozen 0; have zk1_1 := z2_17.cell1; have zf1_1 := z2_17.frozen 1; have zk1_2 := z2_17.cell2; have zf1_2 := z2_17.frozen 2; have F17 := below_then F_16b (Nat.le_refl _) b17; have kl_ba := ba_17.lt; have km_ba := Nat.ne_of_lt ba_17.lt; have kn_ba := Nat.ne_of_gt ba_17.lt; have kc_ba0 := ba_17.cell0; have kc_ba1 := ba_17.cell1; have kc_ba2 := ba_17.cell2; have kc_ba3 := ba_17.cell3; have kc_ba4 := ba_17.cell4; have kc_ba5 := ba_17.cell5; have kl_bb := bb_17.lt; have km_bb := Nat.ne_of_lt bb_17.lt; have kn_bb := Nat.ne_of_gt bb_17.lt; have kc_bb0 := bb_17.cell0; have kc_bb1 := bb_17.cell1; have kc_bb2 := bb_17.cell2; have kc_bb3 := bb_17.cell3; have kc_bb4 := bb_17.cell4; have kc_bb5 := bb_17.cell5; have kl_qx := qx_17.lt; have km_qx := Nat.ne_of_lt qx_17.lt; have kn_qx := Nat.ne_of_gt qx_17.lt; have kc_qx0 := qx_17.cell0; have kc_qx1 := qx_17.cell1; have kc_qx2 := qx_17.cell2; have kc_qx3 := qx_17.cell3; have kc_qx4 := qx_17.cell4; have kc_qx5 := qx_17.cell5; have kl_qy := qy_17.lt; have km_qy := Nat.ne_of_lt qy_17.lt; have kn_qy := Nat.ne_of_gt qy_17.lt; have kc_qy0 := qy_17.cell0; have kc_qy1 := qy_17.cell1; have kc_qy2 := qy_17.cell2; have kc_qy3 := qy_17.cell3; have kc_qy4 := qy_17.cell4; have kc_qy5 := qy_17.cell5; have kl0 := z1_17.lt; have km0 := Nat.ne_of_lt z1_17.lt; have kn0 := Nat.ne_of_gt z1_17.lt; have kl1 := z2_17.lt; have km1 := Nat.ne_of_lt z2_17.lt; have kn1 := Nat.ne_of_gt z2_17.lt)
          | fail)
      all_goals (go_wp2_with fail; go_meet; first | with_reducible exact ⟨_, _, _, u16, u17, rfl, rfl, rfl, z1_17.stor.past lzz1_2, (z2_17.past lyy1_2).stor, (by first | exact lz1_ba | exact lz2_ba | (have h9_ := ba_17.lt; omega)), (by first | exact lz1_ba | exact lz2_ba | (have h9_ := ba_17.lt; omega)), (by first | exact lz1_bb | exact lz2_bb | (have h9_ := bb_17.lt; omega)), (by first | exact lz1_bb | exact lz2_bb | (have h9_ := bb_17.lt; omega)), (by first | exact lz1_qx | exact lz2_qx | (have h9_ := qx_17.lt; omega)), (by first | exact lz1_qx | exact lz2_qx | (have h9_ := qx_17.lt; omega)), (by first | exact lz1_qy | exact lz2_qy | (have h9_ := qy_17.lt; omega)), (by first | exact lz1_qy | exact lz2_qy | (have h9_ := qy_17.lt; omega)), (ba_17.past3 lz1_ba).past3 lz2_ba, (bb_17.past3 lz1_bb).past3 lz2_bb, (qx_17.past3 lz1_qx).past3 lz2_qx, (qy_17.past3 lz1_qy).past3 lz2_qy, (ku_17.storQ z1_17 (.bool u16.s) (.slice u16.A u16.n u16.c) (.slice u16.B u16.m u16.d)).storQ (z2_17.past lyy1_2) (.bool u17.s) (.slice u17.A u17.n u17.c) (.slice u17.B u17.m u17.d), (kv_17.storQ z1_17 (.bool u16.s) (.slice u16.A u16.n u16.c) (.slice u16.B u16.m u16.d)).storQ (z2_17.past lyy1_2) (.bool u17.s) (.slice u17.A u17.n u17.c) (.slice u17.B u17.m u17.d), (kx_17.storQ z1_17 (.bool u16.s) (.slice u16.A u16.n u16.c) (.slice u16.B u16.m u16.d)).storQ (z2_17.past lyy1_2) (.bool u17.s) (.slice u17.A u17.n u17.c) (.slice u17.B u17.m u17.d), (ky_17.storQ z1_17 (.bool u16.s) (.slice u16.A u16.n u16.c) (.slice u16.B u16.m u16.d)).storQ (z2_17.past lyy1_2) (.bool u17.s) (.slice u17.A u17.n u17.c) (.slice u17.B u17.m u17.d), (m1_17.storQ z1_17 (.bool u16.s) (.slice u16.A u16.n u16.c) (.slice u16.B u16.m u16.d)).storQ (z2_17.past lyy1_2) (.bool u17.s) (.slice u17.A u17.n u17.c) (.slice u17.B u17.m u17.d), (m2_17.storQ z1_17 (.bool u16.s) (.slice u16.A u16.n u16.c) (.slice u16.B u16.m u16.d)).storQ (z2_17.past lyy1_2) (.bool u17.s) (.slice u17.A u17.n u17.c) (.slice u17.B u17.m u17.d), (r1_17.storQ z1_17 (.bool u16.s) (.slice u16.A u16.n u16.c) (.slice u16.B u16.m u16.d)).storQ (z2_17.past lyy1_2) (.bool u17.s) (.slice u17.A u17.n u17.c) (.slice u17.B u17.m u17.d), (r2_17.storQ z1_17 (.bool u16.s) (.slice u16.A u16.n u16.c) (.slice u16.B u16.m u16.d)).storQ (z2_17.past lyy1_2) (.bool u17.s) (.slice u17.A u17.n u17.c) (.slice u17.B u17.m u17.d), (x1_17.storQ z1_17 (.bool u16.s) (.slice u16.A u16.n u16.c) (.slice u16.B u16.m u16.d)).storQ (z2_17.past lyy1_2) (.bool u17.s) (.slice u17.A u17.n u17.c) (.slice u17.B u17.m u17.d), (y1.storQ z1_17 (.bool u16.s) (.slice u16.A u16.n u16.c) (.slice u16.B u16.m u16.d)).storQ (z2_17.past lyy1_2) (.bool u17.s) (.slice u17.A u17.n u17.c) (.slice u17.B u17.m u17.d), below_storQ (below_storQ F17 gl1) gl2⟩ | with_reducible exact ⟨_, _, _, u16, u17, rfl, rfl, rfl, (z1_17.past lzz1_2).stor, z2_17.stor.past lyy1_2, (by first | exact lz1_ba | exact lz2_ba | (have h9_ := ba_17.lt; omega)), (by first | exact lz1_ba | exact lz2_ba | (have h9_ := ba_17.lt; omega)), (by first | exact lz1_bb | exact lz2_bb | (have h9_ := bb_17.lt; omega)), (by first | exact lz1_bb | exact lz2_bb | (have h9_ := bb_17.lt; omega)), (by first | exact lz1_qx | exact lz2_qx | (have h9_ := qx_17.lt; omega)), (by first | exact lz1_qx | exact lz2_qx | (have h9_ := qx_17.lt; omega)), (by first | exact lz1_qy | exact lz2_qy | (have h9_ := qy_17.lt; omega)), (by first | exact lz1_qy | exact lz2_qy | (have h9_ := qy_17.lt; omega)), (ba_17.past3 lz2_ba).past3 lz1_ba, (bb_17.past3 lz2_bb).past3 lz1_bb, (qx_17.past3 lz2_qx).past3 lz1_qx, (qy_17.past3 lz2_qy).past3 lz1_qy, (ku_17.storQ z2_17 (.bool u17.s) (.slice u17.A u17.n u17.c) (.slice u17.B u17.m u17.d)).storQ (z1_17.past lzz1_2) (.bool u16.s) (.slice u16.A u16.n u16.c) (.slice u16.B u16.m u16.d), (kv_17.storQ z2_17 (.bool u17.s) (.slice u17.A u17.n u17.c) (.slice u17.B u17.m u17.d)).storQ (z1_17.past lzz1_2) (.bool u16.s) (.slice u16.A u16.n u16.c) (.slice u16.B u16.m u16.d), (kx_17.storQ z2_17 (.bool u17.s) (.slice u17.A u17.n u17.c) (.slice u17.B u17.m u17.d)).storQ (z1_17.past lzz1_2) (.bool u16.s) (.slice u16.A u16.n u16.c) (.slice u16.B u16.m u16.d), (ky_17.storQ z2_17 (.bool u17.s) (.slice u17.A u17.n u17.c) (.slice u17.B u17.m u17.d)).storQ (z1_17.past lzz1_2) (.bool u16.s) (.slice u16.A u16.n u16.c) (.slice u16.B u16.m u16.d), (m1_17.storQ z2_17 (.bool u17.s) (.slice u17.A u17.n u17.c) (.slice u17.B u17.m u17.d)).storQ (z1_17.past lzz1_2) (.bool u16.s) (.slice u16.A u16.n u16.c) (.slice u16.B u16.m u16.d), (m2_17.storQ z2_17 (.bool u17.s) (.slice u17.A u17.n u17.c) (.slice u17.B u17.m u17.d)).storQ (z1_17.past lzz1_2) (.bool u16.s) (.slice u16.A u16.n u16.c) (.slice u16.B u16.m u16.d), (r1_17.storQ z2_17 (.bool u17.s) (.slice u17.A u17.n u17.c) (.slice u17.B u17.m u17.d)).storQ (z1_17.past lzz1_2) (.bool u16.s) (.slice u16.A u16.n u16.c) (.slice u16.B u16.m u16.d), (r2_17.storQ z2_17 (.bool u17.s) (.slice u17.A u17.n u17.c) (.slice u17.B u17.m u17.d)).storQ (z1_17.past lzz1_2) (.bool u16.s) (.slice u16.A u16.n u16.c) (.slice u16.B u16.m u16.d), (x1_17.storQ z2_17 (.bool u17.s) (.slice u17.A u17.n u17.c) (.slice u17.B u17.m u17.d)).storQ (z1_17.past lzz1_2) (.bool u16.s) (.slice u16.A u16.n u16.c) (.slice u16.B u16.m u16.d), (y1.storQ z2_17 (.bool u17.s) (.slice u17.A u17.n u17.c) (.slice u17.B u17.m u17.d)).storQ (z1_17.past lzz1_2) (.bool u16.s) (.slice u16.A u16.n u16.c) (.slice u16.B u16.m u16.d), below_storQ (below_storQ F17 gl2) gl1⟩ | with_reducible exact ⟨_, _, _, u16, u17, rfl, rfl, rfl, z2_17.stor.past lyy1_2, (z1_17.past lzz1_2).stor, (by first | exact lz1_ba | exact lz2_ba | (have h9_ := ba_17.lt; omega)), (by first | exact lz1_ba | exact lz2_ba | (have h9_ := ba_17.lt; omega)), (by first | exact lz1_bb | exact lz2_bb | (have h9_ := bb_17.lt; omega)), (by first | exact lz1_bb | exact lz2_bb | (have h9_ := bb_17.lt; omega)), (by first | exact lz1_qx | exact lz2_qx | (have h9_ := qx_17.lt; omega)), (by first | exact lz1_qx | exact lz2_qx | (have h9_ := qx_17.lt; omega)), (by first | exact lz1_qy | exact lz2_qy | (have h9_ := qy_17.lt; omega)), (by first | exact lz1_qy | exact lz2_qy | (have h9_ := qy_17.lt; omega)), (ba_17.past3 lz2_ba).past3 lz1_ba, (bb_17.past3 lz2_bb).past3 lz1_bb, (qx_17.past3 lz2_qx).past3 lz1_qx, (qy_17.past3 lz2_qy).past3 lz1_qy, (ku_17.storQ z2_17 (.bool u16.s) (.slice u16.A u16.n u16.c) (.slice u16.B u16.m u16.d)).storQ (z1_17.past lzz1_2) (.bool u17.s) (.slice u17.A u17.n u17.c) (.slice u17.B u17.m u17.d), (kv_17.storQ z2_17 (.bool u16.s) (.slice u16.A u16.n u16.c) (.slice u16.B u16.m u16.d)).storQ (z1_17.past lzz1_2) (.bool u17.s) (.slice u17.A u17.n u17.c) (.slice u17.B u17.m u17.d), (kx_17.storQ z2_17 (.bool u16.s) (.slice u16.A u16.n u16.c) (.slice u16.B u16.m u16.d)).storQ (z1_17.past lzz1_2) (.bool u17.s) (.slice u17.A u17.n u17.c) (.slice u17.B u17.m u17.d), (ky_17.storQ z2_17 (.bool u16.s) (.slice u16.A u16.n u16.c) (.slice u16.B u16.m u16.d)).storQ (z1_17.past lzz1_2) (.bool u17.s) (.slice u17.A u17.n u17.c) (.slice u17.B u17.m u17.d), (m1_17.storQ z2_17 (.bool u16.s) (.slice u16.A u16.n u16.c) (.slice u16.B u16.m u16.d)).storQ (z1_17.past lzz1_2) (.bool u17.s) (.slice u17.A u17.n u17.c) (.slice u17.B u17.m u17.d), (m2_17.storQ z2_17 (.bool u16.s) (.slice u16.A u16.n u16.c) (.slice u16.B u16.m u16.d)).storQ (z1_17.past lzz1_2) (.bool u17.s) (.slice u17.A u17.n u17.c) (.slice u17.B u17.m u17.d), (r1_17.storQ z2_17 (.bool u16.s) (.slice u16.A u16.n u16.c) (.slice u16.B u16.m u16.d)).storQ (z1_17.past lzz1_2) (.bool u17.s) (.slice u17.A u17.n u17.c) (.slice u17.B u17.m u17.d), (r2_17.storQ z2_17 (.bool u16.s) (.slice u16.A u16.n u16.c) (.slice u16.B u16.m u16.d)).storQ (z1_17.past lzz1_2) (.bool u17.s) (.slice u17.A u17.n u17.c) (.slice u17.B u17.m u17.d), (x1_17.storQ z2_17 (.bool u16.s) (.slice u16.A u16.n u16.c) (.slice u16.B u16.m u16.d)).storQ (z1_17.past lzz1_2) (.bool u17.s) (.slice u17.A u17.n u17.c) (.slice u17.B u17.m u17.d), (y1.storQ z2_17 (.bool u16.s) (.slice u16.A u16.n u16.c) (.slice u16.B u16.m u16.d)).storQ (z1_17.past lzz1_2) (.bool u17.s) (.slice u17.A u17.n u17.c) (.slice u17.B u17.m u17.d), below_storQ (below_storQ F17 gl2) gl1⟩ | with_reducible exact ⟨_, _, _, u16, u17, rfl, rfl, rfl, (z2_17.past lyy1_2).stor, z1_17.stor.past lzz1_2, (by first | exact lz1_ba | exact lz2_ba | (have h9_ := ba_17.lt; omega)), (by first | exact lz1_ba | exact lz2_ba | (have h9_ := ba_17.lt; omega)), (by first | exact lz1_bb | exact lz2_bb | (have h9_ := bb_17.lt; omega)), (by first | exact lz1_bb | exact lz2_bb | (have h9_ := bb_17.lt; omega)), (by first | exact lz1_qx | exact lz2_qx | (have h9_ := qx_17.lt; omega)), (by first | exact lz1_qx | exact lz2_qx | (have h9_ := qx_17.lt; omega)), (by first | exact lz1_qy | exact lz2_qy | (have h9_ := qy_17.lt; omega)), (by first | exact lz1_qy | exact lz2_qy | (have h9_ := qy_17.lt; omega)), (ba_17.past3 lz1_ba).past3 lz2_ba, (bb_17.past3 lz1_bb).past3 lz2_bb, (qx_17.past3 lz1_qx).past3 lz2_qx, (qy_17.past3 lz1_qy).past3 lz2_qy, (ku_17.storQ z1_17 (.bool u17.s) (.slice u17.A u17.n u17.c) (.slice u17.B u17.m u17.d)).storQ (z2_17.past lyy1_2) (.bool u16.s) (.slice u16.A u16.n u16.c) (.slice u16.B u16.m u16.d), (kv_17.storQ z1_17 (.bool u17.s) (.slice u17.A u17.n u17.c) (.slice u17.B u17.m u17.d)).storQ (z2_17.past lyy1_2) (.bool u16.s) (.slice u16.A u16.n u16.c) (.slice u16.B u16.m u16.d), (kx_17.storQ z1_17 (.bool u17.s) (.slice u17.A u17.n u17.c) (.slice u17.B u17.m u17.d)).storQ (z2_17.past lyy1_2) (.bool u16.s) (.slice u16.A u16.n u16.c) (.slice u16.B u16.m u16.d), (ky_17.storQ z1_17 (.bool u17.s) (.slice u17.A u17.n u17.c) (.slice u17.B u17.m u17.d)).storQ (z2_17.past lyy1_2) (.bool u16.s) (.slice u16.A u16.n u16.c) (.slice u16.B u16.m u16.d), (m1_17.storQ z1_17 (.bool u17.s) (.slice u17.A u17.n u17.c) (.slice u17.B u17.m u17.d)).storQ (z2_17.past lyy1_2) (.bool u16.s) (.slice u16.A u16.n u16.c) (.slice u16.B u16.m u16.d), (m2_17.storQ z1_17 (.bool u17.s) (.slice u17.A u17.n u17.c) (.slice u17.B u17.m u17.d)).storQ (z2_17.past lyy1_2) (.bool u16.s) (.slice u16.A u16.n u16.c) (.slice u16.B u16.m u16.d), (r1_17.storQ z1_17 (.bool u17.s) (.slice u17.A u17.n u17.c) (.slice u17.B u17.m u17.d)).storQ (z2_17.past lyy1_2) (.bool u16.s) (.slice u16.A u16.n u16.c) (.slice u16.B u16.m u16.d), (r2_17.storQ z1_17 (.bool u17.s) (.slice u17.A u17.n u17.c) (.slice u17.B u17.m u17.d)).storQ (z2_17.past lyy1_2) (.bool u16.s) (.slice u16.A u16.n u16.c) (.slice u16.B u16.m u16.d), (x1_17.storQ z1_17 (.bool u17.s) (.slice u17.A u17.n u17.c) (.slice u17.B u17.m u17.d)).storQ (z2_17.past lyy1_2) (.bool u16.s) (.slice u16.A u16.n u16.c) (.slice u16.B u16.m u16.d), (y1.storQ z1_17 (.bool u17.s) (.slice u17.A u17.n u17.c) (.slice u17.B u17.m u17.d)).storQ (z2_17.past lyy1_2) (.bool u16.s) (.slice u16.A u16.n u16.c) (.slice u16.B u16.m u16.d), below_storQ (below_storQ F17 gl1) gl2⟩ | with_reducible exact ⟨_, _, _, u16, u17, rfl, rfl, rfl, (z1_17.stor).alloc _, Sq_at (Sq.new _ _ _ _) (by simp [World.setCell]), (by first | exact lz1_ba | exact lz2_ba | (have h9_ := ba_17.lt; omega)), (by first | exact lz1_ba | exact lz2_ba | (have h9_ := ba_17.lt; omega)), (by first | exact lz1_bb | exact lz2_bb | (have h9_ := bb_17.lt; omega)), (by first | exact lz1_bb | exact lz2_bb | (have h9_ := bb_17.lt; omega)), (by first | exact lz1_qx | exact lz2_qx | (have h9_ := qx_17.lt; omega)), (by first | exact lz1_qx | exact lz2_qx | (have h9_ := qx_17.lt; omega)), (by first | exact lz1_qy | exact lz2_qy | (have h9_ := qy_17.lt; omega)), (by first | exact lz1_qy | exact lz2_qy | (have h9_ := qy_17.lt; omega)), (ba_17.past3 lz1_ba).alloc _, (bb_17.past3 lz1_bb).alloc _, (qx_17.past3 lz1_qx).alloc _, (qy_17.past3 lz1_qy).alloc _, (ku_17.storQ z1_17 (.bool u16.s) (.slice u16.A u16.n u16.c) (.slice u16.B u16.m u16.d)).alloc _, (kv_17.storQ z1_17 (.bool u16.s) (.slice u16.A u16.n u16.c) (.slice u16.B u16.m u16.d)).alloc _, (kx_17.storQ z1_17 (.bool u16.s) (.slice u16.A u16.n u16.c) (.slice u16.B u16.m u16.d)).alloc _, (ky_17.storQ z1_17 (.bool u16.s) (.slice u16.A u16.n u16.c) (.slice u16.B u16.m u16.d)).alloc _, (m1_17.storQ z1_17 (.bool u16.s) (.slice u16.A u16.n u16.c) (.slice u16.B u16.m u16.d)).alloc _, (m2_17.storQ z1_17 (.bool u16.s) (.slice u16.A u16.n u16.c) (.slice u16.B u16.m u16.d)).alloc _, (r1_17.storQ z1_17 (.bool u16.s) (.slice u16.A u16.n u16.c) (.slice u16.B u16.m u16.d)).alloc _, (r2_17.storQ z1_17 (.bool u16.s) (.slice u16.A u16.n u16.c) (.slice u16.B u16.m u16.d)).alloc _, (x1_17.storQ z1_17 (.bool u16.s) (.slice u16.A u16.n u16.c) (.slice u16.B u16.m u16.d)).alloc _, (y1.storQ z1_17 (.bool u16.s) (.slice u16.A u16.n u16.c) (.slice u16.B u16.m u16.d)).alloc _, (below_storQ F17 gl1).alloc (below_storQ F17 gl1).size _⟩ | with_reducible exact ⟨_, _, _, u16, u17, rfl, rfl, rfl, Sq_at (Sq.new _ _ _ _) (by simp [World.setCell]), (z1_17.stor).alloc _, (by first | exact lz1_ba | exact lz2_ba | (have h9_ := ba_17.lt; omega)), (by first | exact lz1_ba | exact lz2_ba | (have h9_ := ba_17.lt; omega)), (by first | exact lz1_bb | exact lz2_bb | (have h9_ := bb_17.lt; omega)), (by first | exact lz1_bb | exact lz2_bb | (have h9_ := bb_17.lt; omega)), (by first | exact lz1_qx | exact lz2_qx | (have h9_ := qx_17.lt; omega)), (by first | exact lz1_qx | exact lz2_qx | (have h9_ := qx_17.lt; omega)), (by first | exact lz1_qy | exact lz2_qy | (have h9_ := qy_17.lt; omega)), (by first | exact lz1_qy | exact lz2_qy | (have h9_ := qy_17.lt; omega)), (ba_17.past3 lz1_ba).alloc _, (bb_17.past3 lz1_bb).alloc _, (qx_17.past3 lz1_qx).alloc _, (qy_17.past3 lz1_qy).alloc _, (ku_17.storQ z1_17 (.bool u17.s) (.slice u17.A u17.n u17.c) (.slice u17.B u17.m u17.d)).alloc _, (kv_17.storQ z1_17 (.bool u17.s) (.slice u17.A u17.n u17.c) (.slice u17.B u17.m u17.d)).alloc _, (kx_17.storQ z1_17 (.bool u17.s) (.slice u17.A u17.n u17.c) (.slice u17.B u17.m u17.d)).alloc _, (ky_17.storQ z1_17 (.bool u17.s) (.slice u17.A u17.n u17.c) (.slice u17.B u17.m u17.d)).alloc _, (m1_17.storQ z1_17 (.bool u17.s) (.slice u17.A u17.n u17.c) (.slice u17.B u17.m u17.d)).alloc _, (m2_17.storQ z1_17 (.bool u17.s) (.slice u17.A u17.n u17.c) (.slice u17.B u17.m u17.d)).alloc _, (r1_17.storQ z1_17 (.bool u17.s) (.slice u17.A u17.n u17.c) (.slice u17.B u17.m u17.d)).alloc _, (r2_17.storQ z1_17 (.bool u17.s) (.slice u17.A u17.n u17.c) (.slice u17.B u17.m u17.d)).alloc _, (x1_17.storQ z1_17 (.bool u17.s) (.slice u17.A u17.n u17.c) (.slice u17.B u17.m u17.d)).alloc _, (y1.storQ z1_17 (.bool u17.s) (.slice u17.A u17.n u17.c) (.slice u17.B u17.m u17.d)).alloc _, (below_storQ F17 gl1).alloc (below_storQ F17 gl1).size _⟩ | with_reducible exact ⟨_, _, _, u16, u17, rfl, rfl, rfl, (Sq.new _ _ _ _).alloc _, Sq_at (Sq.new _ _ _ _) (by simp), (by first | exact lz1_ba | exact lz2_ba | (have h9_ := ba_17.lt; omega)), (by first | exact lz1_ba | exact lz2_ba | (have h9_ := ba_17.lt; omega)), (by first | exact lz1_bb | exact lz2_bb | (have h9_ := bb_17.lt; omega)), (by first | exact lz1_bb | exact lz2_bb | (have h9_ := bb_17.lt; omega)), (by first | exact lz1_qx | exact lz2_qx | (have h9_ := qx_17.lt; omega)), (by first | exact lz1_qx | exact lz2_qx | (have h9_ := qx_17.lt; omega)), (by first | exact lz1_qy | exact lz2_qy | (have h9_ := qy_17.lt; omega)), (by first | exact lz1_qy | exact lz2_qy | (have h9_ := qy_17.lt; omega)), (ba_17.alloc _).alloc _, (bb_17.alloc _).alloc _, (qx_17.alloc _).alloc _, (qy_17.alloc _).alloc _, (ku_17.alloc _).alloc _, (kv_17.alloc _).alloc _, (kx_17.alloc _).alloc _, (ky_17.alloc _).alloc _, (m1_17.alloc _).alloc _, (m2_17.alloc _).alloc _, (r1_17.alloc _).alloc _, (r2_17.alloc _).alloc _, (x1_17.alloc _).alloc _, (y1.alloc _).alloc _, (F17.alloc F17.size _).alloc (F17.alloc F17.size _).size _⟩ | with_reducible exact ⟨_, _, _, u16, u17, rfl, rfl, rfl, Sq_at (Sq.new _ _ _ _) (by simp), (Sq.new _ _ _ _).alloc _, (by first | exact lz1_ba | exact lz2_ba | (have h9_ := ba_17.lt; omega)), (by first | exact lz1_ba | exact lz2_ba | (have h9_ := ba_17.lt; omega)), (by first | exact lz1_bb | exact lz2_bb | (have h9_ := bb_17.lt; omega)), (by first | exact lz1_bb | exact lz2_bb | (have h9_ := bb_17.lt; omega)), (by first | exact lz1_qx | exact lz2_qx | (have h9_ := qx_17.lt; omega)), (by first | exact lz1_qx | exact lz2_qx | (have h9_ := qx_17.lt; omega)), (by first | exact lz1_qy | exact lz2_qy | (have h9_ := qy_17.lt; omega)), (by first | exact lz1_qy | exact lz2_qy | (have h9_ := qy_17.lt; omega)), (ba_17.alloc _).alloc _, (bb_17.alloc _).alloc _, (qx_17.alloc _).alloc _, (qy_17.alloc _).alloc _, (ku_17.alloc _).alloc _, (kv_17.alloc _).alloc _, (kx_17.alloc _).alloc _, (ky_17.alloc _).alloc _, (m1_17.alloc _).alloc _, (m2_17.alloc _).alloc _, (r1_17.alloc _).alloc _, (r2_17.alloc _).alloc _, (x1_17.alloc _).alloc _, (y1.alloc _).alloc _, (F17.alloc F17.size _).alloc (F17.alloc F17.size _).size _⟩ | fail)
    case rest =>
      obtain ⟨Wpx, gpx, gpy, pxu, pyu, rfl, rfl, rfl, hgpx0, hgpy0, nx18_ba, ny18_ba, nx18_bb, ny18_bb, nx18_qx, ny18_qx, nx18_qy, ny18_qy, ba_18, bb_18, qx_18, qy_18, ku_18, kv_18, kx_18, ky_18, m1_18, m2_18, r1_18, r2_18, x1_18, y1_18, F18⟩ := hcut
      have hgpx : Su Wpx gpx pxu := hgpx0
      have hgpy : Su Wpx gpy pyu := hgpy0
      clear hgpx0 hgpy0
      have ba_u18 := ba_18.cell0
      have ba_v18 := ba_18.cell1
      have ba_w18 := ba_18.cell2
      have ba_x18 := ba_18.cell3
      have ba_y18 := ba_18.cell4
      have ba_z18 := ba_18.cell5
      have bb_u18 := bb_18.cell0
      have bb_v18 := bb_18.cell1
      have bb_w18 := bb_18.cell2
      have bb_x18 := bb_18.cell3
      have bb_y18 := bb_18.cell4
      have bb_z18 := bb_18.cell5
      have qx_u18 := qx_18.cell0
      have qx_v18 := qx_18.cell1
      have qx_w18 := qx_18.cell2
      have qx_x18 := qx_18.cell3
      have qx_y18 := qx_18.cell4
      have qx_z18 := qx_18.cell5
      have qy_u18 := qy_18.cell0
      have qy_v18 := qy_18.cell1
      have qy_w18 := qy_18.cell2
      have qy_x18 := qy_18.cell3
      have qy_y18 := qy_18.cell4
      have qy_z18 := qy_18.cell5
      have px_u18 := hgpx.cell0
      have px_v18 := hgpx.cell1
      have px_w18 := hgpx.cell2
      have py_u18 := hgpy.cell0
      have py_v18 := hgpy.cell1
      have py_w18 := hgpy.cell2
      go_wp2_with fail
      have m1_19 := m1_18.drew
      have m2_19 := m2_18.drew
      have r1_19 := r1_18.drew
      have r2_19 := r2_18.drew
      have x1_19 := x1_18.drew
      have y1_19 := y1_18.drew
      have qx_19 := qx_18.drew
      have qy_19 := qy_18.drew
      have px_19 := hgpx.drew
      have py_19 := hgpy.drew
      have F19 := F18.drew
      go_region_held3 (fun w' => w'.cell? ⟨gqx, 0, none⟩ = some (.bool qxu.s) ∧ w'.cell? ⟨gqx, 1, none⟩ = some (.slice qxu.A qxu.n qxu.c) ∧ w'.cell? ⟨gqx, 2, none⟩ = some (.slice qxu.B qxu.m qxu.d) ∧ w'.cell? ⟨gqx, 3, none⟩ = some (.bool qxv.s) ∧ w'.cell? ⟨gqx, 4, none⟩ = some (.slice qxv.A qxv.n qxv.c) ∧ w'.cell? ⟨gqx, 5, none⟩ = some (.slice qxv.B qxv.m qxv.d) ∧ w'.cell? ⟨gqy, 0, none⟩ = some (.bool qyu.s) ∧ w'.cell? ⟨gqy, 1, none⟩ = some (.slice qyu.A qyu.n qyu.c) ∧ w'.cell? ⟨gqy, 2, none⟩ = some (.slice qyu.B qyu.m qyu.d) ∧ w'.cell? ⟨gqy, 3, none⟩ = some (.bool qyv.s) ∧ w'.cell? ⟨gqy, 4, none⟩ = some (.slice qyv.A qyv.n qyv.c) ∧ w'.cell? ⟨gqy, 5, none⟩ = some (.slice qyv.B qyv.m qyv.d) ∧ w'.cell? ⟨gpx, 0, none⟩ = some (.bool pxu.s) ∧ w'.cell? ⟨gpx, 1, none⟩ = some (.slice pxu.A pxu.n pxu.c) ∧ w'.cell? ⟨gpx, 2, none⟩ = some (.slice pxu.B pxu.m pxu.d) ∧ w'.cell? ⟨gpy, 0, none⟩ = some (.bool pyu.s) ∧ w'.cell? ⟨gpy, 1, none⟩ = some (.slice pyu.A pyu.n pyu.c) ∧ w'.cell? ⟨gpy, 2, none⟩ = some (.slice pyu.B pyu.m pyu.d))
        (first
          | with_reducible exact ⟨qx_23.cell0, qx_23.cell1, qx_23.cell2, qx_23.cell3, qx_23.cell4, qx_23.cell5, qy_23.cell0, qy_23.cell1, qy_23.cell2, qy_23.cell3, qy_23.cell4, qy_23.cell5, px_23.cell0, px_23.cell1, px_23.cell2, py_23.cell0, py_23.cell1, py_23.cell2⟩
          | with_reducible exact ⟨qx_22.cell0, qx_22.cell1, qx_22.cell2, qx_22.cell3, qx_22.cell4, qx_22.cell5, qy_22.cell0, qy_22.cell1, qy_22.cell2, qy_22.cell3, qy_22.cell4, qy_22.cell5, px_22.cell0, px_22.cell1, px_22.cell2, py_22.cell0, py_22.cell1, py_22.cell2⟩
          | with_reducible exact ⟨qx_21.cell0, qx_21.cell1, qx_21.cell2, qx_21.cell3, qx_21.cell4, qx_21.cell5, qy_21.cell0, qy_21.cell1, qy_21.cell2, qy_21.cell3, qy_21.cell4, qy_21.cell5, px_21.cell0, px_21.cell1, px_21.cell2, py_21.cell0, py_21.cell1, py_21.cell2⟩
          | with_reducible exact ⟨qx_20.cell0, qx_20.cell1, qx_20.cell2, qx_20.cell3, qx_20.cell4, qx_20.cell5, qy_20.cell0, qy_20.cell1, qy_20.cell2, qy_20.cell3, qy_20.cell4, qy_20.cell5, px_20.cell0, px_20.cell1, px_20.cell2, py_20.cell0, py_20.cell1, py_20.cell2⟩
          | with_reducible exact ⟨qx_19.cell0, qx_19.cell1, qx_19.cell2, qx_19.cell3, qx_19.cell4, qx_19.cell5, qy_19.cell0, qy_19.cell1, qy_19.cell2, qy_19.cell3, qy_19.cell4, qy_19.cell5, px_19.cell0, px_19.cell1, px_19.cell2, py_19.cell0, py_19.cell1, py_19.cell2⟩
          | fail)
        (first
          | (go_at_call 28; (with_reducible refine (mul_u _ _ X Y (X * Y) _ rfl x1_19.iu y1_19.iu ((x1_19.len sX).mono k49) ((y1_19.len sY).mono k49)).mono ?_); rintro e w20 ⟨u20, rfl, z1, b20⟩; have m1_20 := m1_19.below b20; have m2_20 := m2_19.below b20; have r1_20 := r1_19.below b20; have r2_20 := r2_19.below b20; have x1_20 := x1_19.below b20; have y1_20 := y1_19.below b20; have qx_20 := qx_19.below b20 qx_19.lt; have qy_20 := qy_19.below b20 qy_19.lt; have px_20 := px_19.below b20 px_19.lt; have py_20 := py_19.below b20 py_19.lt; have F20 := below_then F19 (Nat.le_refl _) b20)
          | (go_at_call 16; (with_reducible refine (icont_iv _ _ _ A1 B1 (X * Y) true _ HC1.out m1_20 m2_20 z1.iu (z1.len sXY5) HL.out.1 sA4 sB4 sXY5).mono ?_); rintro e w21 ⟨rfl, b21⟩; have m1_21 := m1_20.below b21; have m2_21 := m2_20.below b21; have r1_21 := r1_20.below b21; have r2_21 := r2_20.below b21; have x1_21 := x1_20.below b21; have y1_21 := y1_20.below b21; have z1_21 := z1.below b21; have qx_21 := qx_20.below b21 qx_20.lt; have qy_21 := qy_20.below b21 qy_20.lt; have px_21 := px_20.below b21 px_20.lt; have py_21 := py_20.below b21 py_20.lt; have F21 := below_then F20 (Nat.le_refl _) b21)
          | (go_at_call 33; (with_reducible refine (max_u _ Rv.zero X 0 (max X 0) _ rfl x1_21.iu (cu_zero _).iu ((x1_21.len sX).mono k49) (lu_zero _)).mono ?_); rintro e w22 ⟨u22, rfl, z2, b22⟩; have m1_22 := m1_21.below b22; have m2_22 := m2_21.below b22; have r1_22 := r1_21.below b22; have r2_22 := r2_21.below b22; have x1_22 := x1_21.below b22; have y1_22 := y1_21.below b22; have z1_22 := z1_21.below b22; have qx_22 := qx_21.below b22 qx_21.lt; have qy_22 := qy_21.below b22 qy_21.lt; have px_22 := px_21.below b22 px_21.lt; have py_22 := py_21.below b22 py_21.lt; have F22 := below_then F21 (Nat.le_refl _) b22)
          | (go_at_call 16; (with_reducible refine (icont_iv _ _ _ A2 B2 (max X 0) true _ HC2.out r1_22 r2_22 z2.iu (z2.len sM5) HL.out.2 sA5 sB5 sM5).mono ?_); rintro e w23 ⟨rfl, b23⟩; have m1_23 := m1_22.below b23; have m2_23 := m2_22.below b23; have r1_23 := r1_22.below b23; have r2_23 := r2_22.below b23; have x1_23 := x1_22.below b23; have y1_23 := y1_22.below b23; have z1_23 := z1_22.below b23; have z2_23 := z2.below b23; have qx_23 := qx_22.below b23 qx_22.lt; have qy_23 := qy_22.below b23 qy_22.lt; have px_23 := px_22.below b23 px_22.lt; have py_23 := py_22.below b23 py_22.lt; have F23 := below_then F22 (Nat.le_refl _) b23)
          | fail)
      have qx_u23 := qx_23.cell0
      have qx_v23 := qx_23.cell1
      have qx_w23 := qx_23.cell2
      have qx_x23 := qx_23.cell3
      have qx_y23 := qx_23.cell4
      have qx_z23 := qx_23.cell5
      have qy_u23 := qy_23.cell0
      have qy_v23 := qy_23.cell1
      have qy_w23 := qy_23.cell2
      have qy_x23 := qy_23.cell3
      have qy_y23 := qy_23.cell4
      have qy_z23 := qy_23.cell5
      have px_u23 := px_23.cell0
      have px_v23 := px_23.cell1
      have px_w23 := px_23.cell2
      have py_u23 := py_23.cell0
      have py_v23 := py_23.cell1
      have py_w23 := py_23.cell2
      go_wp2
      go_ret
      exact ⟨rfl, F23⟩
theorem law_imul (u v x y : Rv) (xs ys xs' ys' zs ws zs' ws' : List Nat) (o : Int) (w : World) (ho : 0 ≤ o ∧ o < 65536) (hu : Rx w u xs ys) (hv : Rx w v xs' ys') (hx : Rx w x zs ws) (hy : Rx w y zs' ws') : Calls Try.prog 5 #[.agg #[.bool u.s, .slice u.A u.n u.c, .slice u.B u.m u.d, .bool v.s, .slice v.A v.n v.c, .slice v.B v.m v.d], .agg #[.bool x.s, .slice x.A x.n x.c, .slice x.B x.m x.d, .bool y.s, .slice y.A y.n y.c, .slice y.B y.m y.d], .int .u16 o] w (fun e w' => e = .returned (.bool true) ∧ Below w.heap.size w w') := by
  by_cases ha : (Lu 2 u ∧ Lu 2 v ∧ (isC u.s xs ys && isC v.s xs' ys' && decide (rv u.s xs ys ≤ rv v.s xs' ys')) = true)
  · by_cases hb : (Lu 2 x ∧ Lu 2 y ∧ (isC x.s zs ws && isC y.s zs' ws' && decide (rv x.s zs ws ≤ rv y.s zs' ws')) = true)
    · exact ml_yes u v x y xs ys xs' ys' zs ws zs' ws' o w ho hu hv hx hy ha hb
    · exact ml_n2 u v x y xs ys xs' ys' zs ws zs' ws' o w hu hv hx hy ha hb
  · exact ml_n1 u v x y xs ys xs' ys' zs ws zs' ws' o w hu hv hx hy ha
end Go.Proofs.Ytnddhohjfjlaiaa
