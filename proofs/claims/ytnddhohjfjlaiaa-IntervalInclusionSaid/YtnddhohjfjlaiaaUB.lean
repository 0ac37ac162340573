/-
  The walk of IntervalInclusion.
-/
import Derived.Test.YtnddhohjfjlaiaaU3
namespace Go.Proofs.Ytnddhohjfjlaiaa
open Go.RowKit
set_option linter.unusedVariables false
set_option linter.unusedSimpArgs false

theorem pm_le {A p q r s : Rat} (h1 : A ≤ p * r) (h2 : A ≤ q * r) (h3 : A ≤ p * s) (h4 : A ≤ q * s) : A ≤ min (min (p * r) (q * r)) (min (p * s) (q * s)) := le_mn (le_mn h1 h2) (le_mn h3 h4)
theorem px_le {A p q r s : Rat} (h1 : p * r ≤ A) (h2 : q * r ≤ A) (h3 : p * s ≤ A) (h4 : q * s ≤ A) : max (max (p * r) (q * r)) (max (p * s) (q * s)) ≤ A := mx_le (mx_le h1 h2) (mx_le h3 h4)
theorem qs_pm {k j : Nat} {p q r s : Rat} (h1 : Qs k p) (h2 : Qs k q) (h3 : Qs j r) (h4 : Qs j s) : Qs (k + j) (min (min (p * r) (q * r)) (min (p * s) (q * s))) ∧ Qs (k + j) (max (max (p * r) (q * r)) (max (p * s) (q * s))) :=
  ⟨qs_min (qs_min (size_mul h1 h3) (size_mul h2 h3)) (qs_min (size_mul h1 h4) (size_mul h2 h4)), qs_max (qs_max (size_mul h1 h3) (size_mul h2 h3)) (qs_max (size_mul h1 h4) (size_mul h2 h4))⟩
theorem in_n1 (u v x y : Rv) (xs ys xs' ys' zs ws zs' ws' : List Nat) (o : Int) (w : World) (hu : Rx w u xs ys) (hv : Rx w v xs' ys') (hx : Rx w x zs ws) (hy : Rx w y zs' ws') (hh : ¬ (Lu 2 u ∧ Lu 2 v ∧ (isC u.s xs ys && isC v.s xs' ys' && decide (rv u.s xs ys ≤ rv v.s xs' ys')) = true)) : Calls Try.prog 8 #[.agg #[.bool u.s, .slice u.A u.n u.c, .slice u.B u.m u.d, .bool v.s, .slice v.A v.n v.c, .slice v.B v.m v.d], .agg #[.bool x.s, .slice x.A x.n x.c, .slice x.B x.m x.d, .bool y.s, .slice y.A y.n y.c, .slice y.B y.m y.d], .int .u8 o] w (fun e w' => e = .returned (.bool true) ∧ Below w.heap.size w w') := by
  have HN := hide hh
  clear hh hx hy
  have hu_1 := hu.alloc (EV u v)
  have hv_1 := hv.alloc (EV u v)
  have ba_1 : Sv ((w).alloc (EV u v)) (w.heap.size) u v := by have h_ := Sv.new (w) u v; exact h_
  have F1 := (Below.refl w.heap.size w).alloc (Nat.le_refl _) (EV u v)
  have hu_2 := hu_1.alloc (EV x y)
  have hv_2 := hv_1.alloc (EV x y)
  have ba_2 := ba_1.alloc (EV x y)
  have bb_2 : Sv (((w).alloc (EV u v)).alloc (EV x y)) (w.heap.size + 1) x y := by have h_ := Sv.new ((w).alloc (EV u v)) x y; simp only [World.size_alloc] at h_; exact h_
  have F2 := F1.alloc F1.size (EV x y)
  go_enter Try.func8, Try.ntmps8
  have ba_u2 := ba_2.cell0
  have ba_v2 := ba_2.cell1
  have ba_w2 := ba_2.cell2
  have ba_x2 := ba_2.cell3
  have ba_y2 := ba_2.cell4
  have ba_z2 := ba_2.cell5
  have bb_u2 := bb_2.cell0
  have bb_v2 := bb_2.cell1
  have bb_w2 := bb_2.cell2
  have bb_x2 := bb_2.cell3
  have bb_y2 := bb_2.cell4
  have bb_z2 := bb_2.cell5
  go_wp2_with fail
  refine (awake6 _).mono ?_
  rintro e w3 ⟨rfl, b3⟩
  have hu_3 := hu_2.below b3
  have hv_3 := hv_2.below b3
  have ba_3 := ba_2.below b3 ba_2.lt
  have bb_3 := bb_2.below b3 bb_2.lt
  have F3 := below_then F2 (Nat.le_refl _) b3
  have ba_u3 := ba_3.cell0
  have ba_v3 := ba_3.cell1
  have ba_w3 := ba_3.cell2
  have ba_x3 := ba_3.cell3
  have ba_y3 := ba_3.cell4
  have ba_z3 := ba_3.cell5
  have bb_u3 := bb_3.cell0
  have bb_v3 := bb_3.cell1
  have bb_w3 := bb_3.cell2
  have bb_x3 := bb_3.cell3
  have bb_y3 := bb_3.cell4
  have bb_z3 := bb_3.cell5
  go_wp2_with fail
  refine (small_no _ _ xs ys xs' ys' _ hu_3 hv_3 HN.out).mono ?_
  rintro e w4 ⟨rfl, b4⟩
  have hu_4 := hu_3.below b4
  have hv_4 := hv_3.below b4
  have ba_4 := ba_3.below b4 ba_3.lt
  have bb_4 := bb_3.below b4 bb_3.lt
  have F4 := below_then F3 (Nat.le_refl _) b4
  have ba_u4 := ba_4.cell0
  have ba_v4 := ba_4.cell1
  have ba_w4 := ba_4.cell2
  have ba_x4 := ba_4.cell3
  have ba_y4 := ba_4.cell4
  have ba_z4 := ba_4.cell5
  have bb_u4 := bb_4.cell0
  have bb_v4 := bb_4.cell1
  have bb_w4 := bb_4.cell2
  have bb_x4 := bb_4.cell3
  have bb_y4 := bb_4.cell4
  have bb_z4 := bb_4.cell5
  go_wp2
  go_ret
  exact ⟨rfl, F4⟩
theorem in_n2 (u v x y : Rv) (xs ys xs' ys' zs ws zs' ws' : List Nat) (o : Int) (w : World) (hu : Rx w u xs ys) (hv : Rx w v xs' ys') (hx : Rx w x zs ws) (hy : Rx w y zs' ws') (ha : (Lu 2 u ∧ Lu 2 v ∧ (isC u.s xs ys && isC v.s xs' ys' && decide (rv u.s xs ys ≤ rv v.s xs' ys')) = true)) (hh : ¬ (Lu 2 x ∧ Lu 2 y ∧ (isC x.s zs ws && isC y.s zs' ws' && decide (rv x.s zs ws ≤ rv y.s zs' ws')) = true)) : Calls Try.prog 8 #[.agg #[.bool u.s, .slice u.A u.n u.c, .slice u.B u.m u.d, .bool v.s, .slice v.A v.n v.c, .slice v.B v.m v.d], .agg #[.bool x.s, .slice x.A x.n x.c, .slice x.B x.m x.d, .bool y.s, .slice y.A y.n y.c, .slice y.B y.m y.d], .int .u8 o] w (fun e w' => e = .returned (.bool true) ∧ Below w.heap.size w w') := by
  have HN := hide hh
  have HA := hide ha
  clear hh ha
  have hu_1 := hu.alloc (EV u v)
  have hv_1 := hv.alloc (EV u v)
  have hx_1 := hx.alloc (EV u v)
  have hy_1 := hy.alloc (EV u v)
  have ba_1 : Sv ((w).alloc (EV u v)) (w.heap.size) u v := by have h_ := Sv.new (w) u v; exact h_
  have F1 := (Below.refl w.heap.size w).alloc (Nat.le_refl _) (EV u v)
  have hu_2 := hu_1.alloc (EV x y)
  have hv_2 := hv_1.alloc (EV x y)
  have hx_2 := hx_1.alloc (EV x y)
  have hy_2 := hy_1.alloc (EV x y)
  have ba_2 := ba_1.alloc (EV x y)
  have bb_2 : Sv (((w).alloc (EV u v)).alloc (EV x y)) (w.heap.size + 1) x y := by have h_ := Sv.new ((w).alloc (EV u v)) x y; simp only [World.size_alloc] at h_; exact h_
  have F2 := F1.alloc F1.size (EV x y)
  go_enter Try.func8, Try.ntmps8
  have ba_u2 := ba_2.cell0
  have ba_v2 := ba_2.cell1
  have ba_w2 := ba_2.cell2
  have ba_x2 := ba_2.cell3
  have ba_y2 := ba_2.cell4
  have ba_z2 := ba_2.cell5
  have bb_u2 := bb_2.cell0
  have bb_v2 := bb_2.cell1
  have bb_w2 := bb_2.cell2
  have bb_x2 := bb_2.cell3
  have bb_y2 := bb_2.cell4
  have bb_z2 := bb_2.cell5
  go_wp2_with fail
  refine (awake6 _).mono ?_
  rintro e w3 ⟨rfl, b3⟩
  have hu_3 := hu_2.below b3
  have hv_3 := hv_2.below b3
  have hx_3 := hx_2.below b3
  have hy_3 := hy_2.below b3
  have ba_3 := ba_2.below b3 ba_2.lt
  have bb_3 := bb_2.below b3 bb_2.lt
  have F3 := below_then F2 (Nat.le_refl _) b3
  have ba_u3 := ba_3.cell0
  have ba_v3 := ba_3.cell1
  have ba_w3 := ba_3.cell2
  have ba_x3 := ba_3.cell3
  have ba_y3 := ba_3.cell4
  have ba_z3 := ba_3.cell5
  have bb_u3 := bb_3.cell0
  have bb_v3 := bb_3.cell1
  have bb_w3 := bb_3.cell2
  have bb_x3 := bb_3.cell3
  have bb_y3 := bb_3.cell4
  have bb_z3 := bb_3.cell5
  go_wp2_with fail
  refine (small_v _ _ xs ys xs' ys' true _ HA.out.2.2 hu_3 hv_3 HA.out.1 HA.out.2.1).mono ?_
  rintro e w4 ⟨rfl, b4⟩
  have hu_4 := hu_3.below b4
  have hv_4 := hv_3.below b4
  have hx_4 := hx_3.below b4
  have hy_4 := hy_3.below b4
  have ba_4 := ba_3.below b4 ba_3.lt
  have bb_4 := bb_3.below b4 bb_3.lt
  have F4 := below_then F3 (Nat.le_refl _) b4
  have ba_u4 := ba_4.cell0
  have ba_v4 := ba_4.cell1
  have ba_w4 := ba_4.cell2
  have ba_x4 := ba_4.cell3
  have ba_y4 := ba_4.cell4
  have ba_z4 := ba_4.cell5
  have bb_u4 := bb_4.cell0
  have bb_v4 := bb_4.cell1
  have bb_w4 := bb_4.cell2
  have bb_x4 := bb_4.cell3
  have bb_y4 := bb_4.cell4
  have bb_z4 := bb_4.cell5
  go_wp2_with fail
  refine (small_no _ _ zs ws zs' ws' _ hx_4 hy_4 HN.out).mono ?_
  rintro e w5 ⟨rfl, b5⟩
  have hx_5 := hx_4.below b5
  have hy_5 := hy_4.below b5
  have ba_5 := ba_4.below b5 ba_4.lt
  have bb_5 := bb_4.below b5 bb_4.lt
  have F5 := below_then F4 (Nat.le_refl _) b5
  have ba_u5 := ba_5.cell0
  have ba_v5 := ba_5.cell1
  have ba_w5 := ba_5.cell2
  have ba_x5 := ba_5.cell3
  have ba_y5 := ba_5.cell4
  have ba_z5 := ba_5.cell5
  have bb_u5 := bb_5.cell0
  have bb_v5 := bb_5.cell1
  have bb_w5 := bb_5.cell2
  have bb_x5 := bb_5.cell3
  have bb_y5 := bb_5.cell4
  have bb_z5 := bb_5.cell5
  go_wp2
  go_ret
  exact ⟨rfl, F5⟩
set_option maxRecDepth 50000 in
set_option maxHeartbeats 8000000 in
theorem in_yes (u v x y : Rv) (xs ys xs' ys' zs ws zs' ws' : List Nat) (o : Int) (w : World) (ho : 0 ≤ o ∧ o < 256) (hu : Rx w u xs ys) (hv : Rx w v xs' ys') (hx : Rx w x zs ws) (hy : Rx w y zs' ws') (ha : (Lu 2 u ∧ Lu 2 v ∧ (isC u.s xs ys && isC v.s xs' ys' && decide (rv u.s xs ys ≤ rv v.s xs' ys')) = true)) (hb : (Lu 2 x ∧ Lu 2 y ∧ (isC x.s zs ws && isC y.s zs' ws' && decide (rv x.s zs ws ≤ rv y.s zs' ws')) = true)) : Calls Try.prog 8 #[.agg #[.bool u.s, .slice u.A u.n u.c, .slice u.B u.m u.d, .bool v.s, .slice v.A v.n v.c, .slice v.B v.m v.d], .agg #[.bool x.s, .slice x.A x.n x.c, .slice x.B x.m x.d, .bool y.s, .slice y.A y.n y.c, .slice y.B y.m y.d], .int .u8 o] w (fun e w' => e = .returned (.bool true) ∧ Below w.heap.size w w') := by
  obtain ⟨p, q, ku, kv, hpq, sp2, sq2⟩ := vx_of hu hv ha.1 ha.2.1 ha.2.2
  obtain ⟨p', q', kx, ky, hpq', sp2', sq2'⟩ := vx_of hx hy hb.1 hb.2.1 hb.2.2
  have HA := hide ha
  have HB := hide hb
  have sp := sp2.m (show 2 ≤ 100 by decide)
  have sq := sq2.m (show 2 ≤ 100 by decide)
  have sp' := sp2'.m (show 2 ≤ 100 by decide)
  have sq' := sq2'.m (show 2 ≤ 100 by decide)
  have la := (ku.len sp2).mono (show 2 ≤ 4000 by decide)
  have lc := (kv.len sq2).mono (show 2 ≤ 4000 by decide)
  have lx := (kx.len sp2').mono (show 2 ≤ 4000 by decide)
  have ly := (ky.len sq2').mono (show 2 ≤ 4000 by decide)
  obtain ⟨X, hX⟩ : ∃ X, p + ((o : Rat) / ((255 : Int) : Rat)) * (q - p) = X := ⟨_, rfl⟩
  have iX := at_in hpq ho hX
  have sX := at_size ho sp2 sq2 hX
  have g1 := mul_in (Rat.le_refl (a := p)) hpq (Rat.le_refl (a := p')) hpq'
  have g2 := mul_in iX.1 iX.2 (Rat.le_refl (a := p')) hpq'
  have g3 := mul_in iX.1 iX.2 hpq' (Rat.le_refl (a := q'))
  have g4 := mul_in hpq (Rat.le_refl (a := q)) (Rat.le_refl (a := p')) hpq'
  have g5 := mul_in hpq (Rat.le_refl (a := q)) hpq' (Rat.le_refl (a := q'))
  have g6 := mul_in (Rat.le_refl (a := p)) hpq hpq' (Rat.le_refl (a := q'))
  have p1 := qs_pm (sp2.m (show 2 ≤ 9 by decide)) (sq2.m (show 2 ≤ 9 by decide)) sp2' sq2'
  have p2_ := qs_pm sX (sq2.m (show 2 ≤ 9 by decide)) sp2' sq2'
  have p3 := qs_pm sp2' sq2' (sp2.m (show 2 ≤ 9 by decide)) sX
  obtain ⟨S1, hS1⟩ : ∃ z, p + p' = z := ⟨_, rfl⟩
  obtain ⟨S2, hS2⟩ : ∃ z, q + q' = z := ⟨_, rfl⟩
  obtain ⟨S3, hS3⟩ : ∃ z, X + q' = z := ⟨_, rfl⟩
  obtain ⟨zA1, hA1⟩ : ∃ z, min (min (p * p') (q * p')) (min (p * q') (q * q')) = z := ⟨_, rfl⟩
  obtain ⟨zB1, hB1⟩ : ∃ z, max (max (p * p') (q * p')) (max (p * q') (q * q')) = z := ⟨_, rfl⟩
  obtain ⟨zA2, hA2⟩ : ∃ z, min (min (X * p') (q * p')) (min (X * q') (q * q')) = z := ⟨_, rfl⟩
  obtain ⟨zB2, hB2⟩ : ∃ z, max (max (X * p') (q * p')) (max (X * q') (q * q')) = z := ⟨_, rfl⟩
  obtain ⟨zA3, hA3⟩ : ∃ z, min (min (p' * p) (q' * p)) (min (p' * X) (q' * X)) = z := ⟨_, rfl⟩
  obtain ⟨zB3, hB3⟩ : ∃ z, max (max (p' * p) (q' * p)) (max (p' * X) (q' * X)) = z := ⟨_, rfl⟩
  obtain ⟨R1, hR1⟩ : ∃ z, max p 0 = z := ⟨_, rfl⟩
  obtain ⟨R2, hR2⟩ : ∃ z, max q 0 = z := ⟨_, rfl⟩
  obtain ⟨R3, hR3⟩ : ∃ z, max X 0 = z := ⟨_, rfl⟩
  have c1 : S1 ≤ S1 ∧ S3 ≤ S2 := ⟨Rat.le_refl, by rw [← hS3, ← hS2]; exact Rat.add_le_add_right.2 iX.2⟩
  rw [hA1, hB1] at g1 g2 g3 g4 g5 g6
  have c2 : zA1 ≤ zA2 ∧ zB2 ≤ zB1 := ⟨by rw [← hA2]; exact pm_le g2.1 g4.1 g3.1 g5.1, by rw [← hB2]; exact px_le g2.2 g4.2 g3.2 g5.2⟩
  have c3 : zA1 ≤ zA3 ∧ zB3 ≤ zB1 := by
    rw [← hA3, ← hB3, Rat.mul_comm p' p, Rat.mul_comm q' p, Rat.mul_comm p' X, Rat.mul_comm q' X]
    exact ⟨le_mn (le_mn g1.1 g6.1) (le_mn g2.1 g3.1), mx_le (mx_le g1.2 g6.2) (mx_le g2.2 g3.2)⟩
  have c4 : R1 ≤ R3 ∧ R2 ≤ R2 := ⟨by rw [← hR1, ← hR3]; exact mx_mono iX.1, Rat.le_refl⟩
  have l1 : S1 ≤ S3 := by
    have h1 := iX.1
    rw [← hS1, ← hS3]
    grind
  have l2 : zA1 ≤ zB1 := Rat.le_trans g1.1 g1.2
  have l3 : zA2 ≤ zB2 := by rw [← hA2, ← hB2]; exact Rat.le_trans (mul_in (Rat.le_refl (a := X)) iX.2 (Rat.le_refl (a := p')) hpq').1 (mul_in (Rat.le_refl (a := X)) iX.2 (Rat.le_refl (a := p')) hpq').2
  have l4 : zA3 ≤ zB3 := by rw [← hA3, ← hB3]; exact Rat.le_trans (mul_in (Rat.le_refl (a := p')) hpq' (Rat.le_refl (a := p)) iX.1).1 (mul_in (Rat.le_refl (a := p')) hpq' (Rat.le_refl (a := p)) iX.1).2
  have l5 : R3 ≤ R2 := by rw [← hR3, ← hR2]; exact mx_mono iX.2
  have l6 : S1 ≤ S2 := Rat.le_trans l1 c1.2
  have l7 : R1 ≤ R2 := Rat.le_trans c4.1 l5
  have z1 : Qs 2 (0 : Rat) := qs_lit2 (by decide +kernel)
  have s1 : Qs 100 S1 := by rw [← hS1]; exact (size_add sp2 sp2').m (by decide)
  have s2 : Qs 100 S2 := by rw [← hS2]; exact (size_add sq2 sq2').m (by decide)
  have s3 : Qs 100 S3 := by rw [← hS3]; exact (size_add sX sq2').m (by decide)
  rw [hA1, hB1] at p1
  rw [hA2, hB2] at p2_
  rw [hA3, hB3] at p3
  have a1_ := p1.1.m (show 9 + 2 ≤ 100 by decide)
  have a2_ := p1.2.m (show 9 + 2 ≤ 100 by decide)
  have a3_ := p2_.1.m (show 9 + 2 ≤ 100 by decide)
  have a4_ := p2_.2.m (show 9 + 2 ≤ 100 by decide)
  have a5_ := p3.1.m (show 2 + 9 ≤ 100 by decide)
  have a6_ := p3.2.m (show 2 + 9 ≤ 100 by decide)
  have r1_ : Qs 100 R1 := by rw [← hR1]; exact (qs_max sp2 z1).m (by decide)
  have r2_ : Qs 100 R2 := by rw [← hR2]; exact (qs_max sq2 z1).m (by decide)
  have r3_ : Qs 100 R3 := by rw [← hR3]; exact (qs_max sX (z1.m (by decide))).m (by decide)
  have HX := hide hX
  have HO := hide ho
  have HI := hide iX
  have HS1 := hide hS1
  have HS2 := hide hS2
  have HS3 := hide hS3
  have HA1 := hide hA1
  have HB1 := hide hB1
  have HA2 := hide hA2
  have HB2 := hide hB2
  have HA3 := hide hA3
  have HB3 := hide hB3
  have HR1 := hide hR1
  have HR2 := hide hR2
  have HR3 := hide hR3
  have HC1 := hide (show (decide (S1 ≤ S1) && decide (S3 ≤ S2)) = true by rw [decide_eq_true c1.1, decide_eq_true c1.2]; rfl)
  have HC2 := hide (show (decide (zA1 ≤ zA2) && decide (zB2 ≤ zB1)) = true by rw [decide_eq_true c2.1, decide_eq_true c2.2]; rfl)
  have HC3 := hide (show (decide (zA1 ≤ zA3) && decide (zB3 ≤ zB1)) = true by rw [decide_eq_true c3.1, decide_eq_true c3.2]; rfl)
  have HC4 := hide (show (decide (R1 ≤ R3) && decide (R2 ≤ R2)) = true by rw [decide_eq_true c4.1, decide_eq_true c4.2]; rfl)
  have HL := hide (And.intro l1 (And.intro l2 (And.intro l3 (And.intro l4 (And.intro l5 (And.intro l6 l7))))))
  have HP := hide (And.intro hpq hpq')
  have ho1 := ho.1
  have ho2 := ho.2
  have p9 := sp2.m (show 2 ≤ 9 by decide)
  have q9 := sq2.m (show 2 ≤ 9 by decide)
  have sX1 := sX.m (show 9 ≤ 100 by decide)
  have lu1 := (ku.len sp2).mono (show 2 ≤ 100 by decide)
  have lv1 := (kv.len sq2).mono (show 2 ≤ 100 by decide)
  have k9 : 9 ≤ 100 := by decide
  clear ha hb hpq hpq' hX ho iX g1 g2 g3 g4 g5 g6 p1 p2_ p3 hS1 hS2 hS3 hA1 hB1 hA2 hB2 hA3 hB3 hR1 hR2 hR3 c1 c2 c3 c4 l1 l2 l3 l4 l5 l6 l7 z1 sp2 sq2 sp2' sq2'
  have hu_1 := hu.alloc (EV u v)
  have hv_1 := hv.alloc (EV u v)
  have hx_1 := hx.alloc (EV u v)
  have hy_1 := hy.alloc (EV u v)
  have ku_1 := ku.alloc (EV u v)
  have kv_1 := kv.alloc (EV u v)
  have kx_1 := kx.alloc (EV u v)
  have ky_1 := ky.alloc (EV u v)
  have ba_1 : Sv ((w).alloc (EV u v)) (w.heap.size) u v := by have h_ := Sv.new (w) u v; exact h_
  have F1 := (Below.refl w.heap.size w).alloc (Nat.le_refl _) (EV u v)
  have hu_2 := hu_1.alloc (EV x y)
  have hv_2 := hv_1.alloc (EV x y)
  have hx_2 := hx_1.alloc (EV x y)
  have hy_2 := hy_1.alloc (EV x y)
  have ku_2 := ku_1.alloc (EV x y)
  have kv_2 := kv_1.alloc (EV x y)
  have kx_2 := kx_1.alloc (EV x y)
  have ky_2 := ky_1.alloc (EV x y)
  have ba_2 := ba_1.alloc (EV x y)
  have bb_2 : Sv (((w).alloc (EV u v)).alloc (EV x y)) (w.heap.size + 1) x y := by have h_ := Sv.new ((w).alloc (EV u v)) x y; simp only [World.size_alloc] at h_; exact h_
  have F2 := F1.alloc F1.size (EV x y)
  go_enter Try.func8, Try.ntmps8
  have ba_u2 := ba_2.cell0
  have ba_v2 := ba_2.cell1
  have ba_w2 := ba_2.cell2
  have ba_x2 := ba_2.cell3
  have ba_y2 := ba_2.cell4
  have ba_z2 := ba_2.cell5
  have bb_u2 := bb_2.cell0
  have bb_v2 := bb_2.cell1
  have bb_w2 := bb_2.cell2
  have bb_x2 := bb_2.cell3
  have bb_y2 := bb_2.cell4
  have bb_z2 := bb_2.cell5
  go_wp2_with fail
  refine (awake6 _).mono ?_
  rintro e w3 ⟨rfl, b3⟩
  have hu_3 := hu_2.below b3
  have hv_3 := hv_2.below b3
  have hx_3 := hx_2.below b3
  have hy_3 := hy_2.below b3
  have ku_3 := ku_2.below b3
  have kv_3 := kv_2.below b3
  have kx_3 := kx_2.below b3
  have ky_3 := ky_2.below b3
  have ba_3 := ba_2.below b3 ba_2.lt
  have bb_3 := bb_2.below b3 bb_2.lt
  have F3 := below_then F2 (Nat.le_refl _) b3
  have ba_u3 := ba_3.cell0
  have ba_v3 := ba_3.cell1
  have ba_w3 := ba_3.cell2
  have ba_x3 := ba_3.cell3
  have ba_y3 := ba_3.cell4
  have ba_z3 := ba_3.cell5
  have bb_u3 := bb_3.cell0
  have bb_v3 := bb_3.cell1
  have bb_w3 := bb_3.cell2
  have bb_x3 := bb_3.cell3
  have bb_y3 := bb_3.cell4
  have bb_z3 := bb_3.cell5
  go_wp2_with fail
  refine (small_v _ _ xs ys xs' ys' true _ HA.out.2.2 hu_3 hv_3 HA.out.1 HA.out.2.1).mono ?_
  rintro e w4 ⟨rfl, b4⟩
  have hu_4 := hu_3.below b4
  have hv_4 := hv_3.below b4
  have hx_4 := hx_3.below b4
  have hy_4 := hy_3.below b4
  have ku_4 := ku_3.below b4
  have kv_4 := kv_3.below b4
  have kx_4 := kx_3.below b4
  have ky_4 := ky_3.below b4
  have ba_4 := ba_3.below b4 ba_3.lt
  have bb_4 := bb_3.below b4 bb_3.lt
  have F4 := below_then F3 (Nat.le_refl _) b4
  have ba_u4 := ba_4.cell0
  have ba_v4 := ba_4.cell1
  have ba_w4 := ba_4.cell2
  have ba_x4 := ba_4.cell3
  have ba_y4 := ba_4.cell4
  have ba_z4 := ba_4.cell5
  have bb_u4 := bb_4.cell0
  have bb_v4 := bb_4.cell1
  have bb_w4 := bb_4.cell2
  have bb_x4 := bb_4.cell3
  have bb_y4 := bb_4.cell4
  have bb_z4 := bb_4.cell5
  go_wp2_with fail
  refine (small_v _ _ zs ws zs' ws' true _ HB.out.2.2 hx_4 hy_4 HB.out.1 HB.out.2.1).mono ?_
  rintro e w5 ⟨rfl, b5⟩
  have hx_5 := hx_4.below b5
  have hy_5 := hy_4.below b5
  have ku_5 := ku_4.below b5
  have kv_5 := kv_4.below b5
  have kx_5 := kx_4.below b5
  have ky_5 := ky_4.below b5
  have ba_5 := ba_4.below b5 ba_4.lt
  have bb_5 := bb_4.below b5 bb_4.lt
  have F5 := below_then F4 (Nat.le_refl _) b5
  have ba_u5 := ba_5.cell0
  have ba_v5 := ba_5.cell1
  have ba_w5 := ba_5.cell2
  have ba_x5 := ba_5.cell3
  have ba_y5 := ba_5.cell4
  have ba_z5 := ba_5.cell5
  have bb_u5 := bb_5.cell0
  have bb_v5 := bb_5.cell1
  have bb_w5 := bb_5.cell2
  have bb_x5 := bb_5.cell3
  have bb_y5 := bb_5.cell4
  have bb_z5 := bb_5.cell5
  go_wp2_with fail
  refine (at_u _ _ p q X o _ HX.out HO.out ku_5 kv_5 p9 q9).mono ?_
  rintro e w6 ⟨u6, rfl, kX, b6⟩
  have ku_6 := ku_5.below b6
  have kv_6 := kv_5.below b6
  have kx_6 := kx_5.below b6
  have ky_6 := ky_5.below b6
  have ba_6 := ba_5.below b6 ba_5.lt
  have bb_6 := bb_5.below b6 bb_5.lt
  have F6 := below_then F5 (Nat.le_refl _) b6
  have ba_u6 := ba_6.cell0
  have ba_v6 := ba_6.cell1
  have ba_w6 := ba_6.cell2
  have ba_x6 := ba_6.cell3
  have ba_y6 := ba_6.cell4
  have ba_z6 := ba_6.cell5
  have bb_u6 := bb_6.cell0
  have bb_v6 := bb_6.cell1
  have bb_w6 := bb_6.cell2
  have bb_x6 := bb_6.cell3
  have bb_y6 := bb_6.cell4
  have bb_z6 := bb_6.cell5
  have lt_bp_ba := ba_6.lt
  have lt_bp_bb := bb_6.lt
  have ku_7 := ku_6.alloc (EU u6)
  have kv_7 := kv_6.alloc (EU u6)
  have kx_7 := kx_6.alloc (EU u6)
  have ky_7 := ky_6.alloc (EU u6)
  have kX_7 := kX.alloc (EU u6)
  have ba_7 := ba_6.alloc (EU u6)
  have bb_7 := bb_6.alloc (EU u6)
  have bp_7 : Su ((w6).alloc (EU u6)) (w6.heap.size) u6 := by have h_ := Su.new (w6) u6; exact h_
  have F7 := F6.alloc F6.size (EU u6)
  have ba_u7 := ba_7.cell0
  have ba_v7 := ba_7.cell1
  have ba_w7 := ba_7.cell2
  have ba_x7 := ba_7.cell3
  have ba_y7 := ba_7.cell4
  have ba_z7 := ba_7.cell5
  have bb_u7 := bb_7.cell0
  have bb_v7 := bb_7.cell1
  have bb_w7 := bb_7.cell2
  have bb_x7 := bb_7.cell3
  have bb_y7 := bb_7.cell4
  have bb_z7 := bb_7.cell5
  have bp_u7 := bp_7.cell0
  have bp_v7 := bp_7.cell1
  have bp_w7 := bp_7.cell2
  have lX1 := (kX_7.len sX).mono k9
  go_wp2_with fail
  refine (imake_iv _ _ p X _ ku_7.iu kX_7.iu lu1 lX1 sp sX1 HI.out.1).mono ?_
  rintro e w8 ⟨u8, v8, rfl, f1, f2, b8⟩
  have ku_8 := ku_7.below b8
  have kv_8 := kv_7.below b8
  have kx_8 := kx_7.below b8
  have ky_8 := ky_7.below b8
  have kX_8 := kX_7.below b8
  have ba_8 := ba_7.below b8 ba_7.lt
  have bb_8 := bb_7.below b8 bb_7.lt
  have bp_8 := bp_7.below b8 bp_7.lt
  have F8 := below_then F7 (Nat.le_refl _) b8
  have ba_u8 := ba_8.cell0
  have ba_v8 := ba_8.cell1
  have ba_w8 := ba_8.cell2
  have ba_x8 := ba_8.cell3
  have ba_y8 := ba_8.cell4
  have ba_z8 := ba_8.cell5
  have bb_u8 := bb_8.cell0
  have bb_v8 := bb_8.cell1
  have bb_w8 := bb_8.cell2
  have bb_x8 := bb_8.cell3
  have bb_y8 := bb_8.cell4
  have bb_z8 := bb_8.cell5
  have bp_u8 := bp_8.cell0
  have bp_v8 := bp_8.cell1
  have bp_w8 := bp_8.cell2
  have lt_bl_ba := ba_8.lt
  have lt_bl_bb := bb_8.lt
  have lt_bl_bp := bp_8.lt
  have ku_9 := ku_8.alloc (EV u8 v8)
  have kv_9 := kv_8.alloc (EV u8 v8)
  have kx_9 := kx_8.alloc (EV u8 v8)
  have ky_9 := ky_8.alloc (EV u8 v8)
  have kX_9 := kX_8.alloc (EV u8 v8)
  have f1_9 := f1.alloc (EV u8 v8)
  have f2_9 := f2.alloc (EV u8 v8)
  have ba_9 := ba_8.alloc (EV u8 v8)
  have bb_9 := bb_8.alloc (EV u8 v8)
  have bp_9 := bp_8.alloc (EV u8 v8)
  have bl_9 : Sv ((w8).alloc (EV u8 v8)) (w8.heap.size) u8 v8 := by have h_ := Sv.new (w8) u8 v8; exact h_
  have F9 := F8.alloc F8.size (EV u8 v8)
  have ba_u9 := ba_9.cell0
  have ba_v9 := ba_9.cell1
  have ba_w9 := ba_9.cell2
  have ba_x9 := ba_9.cell3
  have ba_y9 := ba_9.cell4
  have ba_z9 := ba_9.cell5
  have bb_u9 := bb_9.cell0
  have bb_v9 := bb_9.cell1
  have bb_w9 := bb_9.cell2
  have bb_x9 := bb_9.cell3
  have bb_y9 := bb_9.cell4
  have bb_z9 := bb_9.cell5
  have bp_u9 := bp_9.cell0
  have bp_v9 := bp_9.cell1
  have bp_w9 := bp_9.cell2
  have bl_u9 := bl_9.cell0
  have bl_v9 := bl_9.cell1
  have bl_w9 := bl_9.cell2
  have bl_x9 := bl_9.cell3
  have bl_y9 := bl_9.cell4
  have bl_z9 := bl_9.cell5
  go_wp2_with fail
  refine (imake_iv _ _ X q _ kX_9.iu kv_9.iu lX1 lv1 sX1 sq HI.out.2).mono ?_
  rintro e w10 ⟨u10, v10, rfl, t1, t2, b10⟩
  have ku_10 := ku_9.below b10
  have kv_10 := kv_9.below b10
  have kx_10 := kx_9.below b10
  have ky_10 := ky_9.below b10
  have kX_10 := kX_9.below b10
  have f1_10 := f1_9.below b10
  have f2_10 := f2_9.below b10
  have ba_10 := ba_9.below b10 ba_9.lt
  have bb_10 := bb_9.below b10 bb_9.lt
  have bp_10 := bp_9.below b10 bp_9.lt
  have bl_10 := bl_9.below b10 bl_9.lt
  have F10 := below_then F9 (Nat.le_refl _) b10
  have ba_u10 := ba_10.cell0
  have ba_v10 := ba_10.cell1
  have ba_w10 := ba_10.cell2
  have ba_x10 := ba_10.cell3
  have ba_y10 := ba_10.cell4
  have ba_z10 := ba_10.cell5
  have bb_u10 := bb_10.cell0
  have bb_v10 := bb_10.cell1
  have bb_w10 := bb_10.cell2
  have bb_x10 := bb_10.cell3
  have bb_y10 := bb_10.cell4
  have bb_z10 := bb_10.cell5
  have bp_u10 := bp_10.cell0
  have bp_v10 := bp_10.cell1
  have bp_w10 := bp_10.cell2
  have bl_u10 := bl_10.cell0
  have bl_v10 := bl_10.cell1
  have bl_w10 := bl_10.cell2
  have bl_x10 := bl_10.cell3
  have bl_y10 := bl_10.cell4
  have bl_z10 := bl_10.cell5
  have lt_bt_ba := ba_10.lt
  have lt_bt_bb := bb_10.lt
  have lt_bt_bp := bp_10.lt
  have lt_bt_bl := bl_10.lt
  have ku_11 := ku_10.alloc (EV u10 v10)
  have kv_11 := kv_10.alloc (EV u10 v10)
  have kx_11 := kx_10.alloc (EV u10 v10)
  have ky_11 := ky_10.alloc (EV u10 v10)
  have kX_11 := kX_10.alloc (EV u10 v10)
  have f1_11 := f1_10.alloc (EV u10 v10)
  have f2_11 := f2_10.alloc (EV u10 v10)
  have t1_11 := t1.alloc (EV u10 v10)
  have t2_11 := t2.alloc (EV u10 v10)
  have ba_11 := ba_10.alloc (EV u10 v10)
  have bb_11 := bb_10.alloc (EV u10 v10)
  have bp_11 := bp_10.alloc (EV u10 v10)
  have bl_11 := bl_10.alloc (EV u10 v10)
  have bt_11 : Sv ((w10).alloc (EV u10 v10)) (w10.heap.size) u10 v10 := by have h_ := Sv.new (w10) u10 v10; exact h_
  have F11 := F10.alloc F10.size (EV u10 v10)
  have ba_u11 := ba_11.cell0
  have ba_v11 := ba_11.cell1
  have ba_w11 := ba_11.cell2
  have ba_x11 := ba_11.cell3
  have ba_y11 := ba_11.cell4
  have ba_z11 := ba_11.cell5
  have bb_u11 := bb_11.cell0
  have bb_v11 := bb_11.cell1
  have bb_w11 := bb_11.cell2
  have bb_x11 := bb_11.cell3
  have bb_y11 := bb_11.cell4
  have bb_z11 := bb_11.cell5
  have bp_u11 := bp_11.cell0
  have bp_v11 := bp_11.cell1
  have bp_w11 := bp_11.cell2
  have bl_u11 := bl_11.cell0
  have bl_v11 := bl_11.cell1
  have bl_w11 := bl_11.cell2
  have bl_x11 := bl_11.cell3
  have bl_y11 := bl_11.cell4
  have bl_z11 := bl_11.cell5
  have bt_u11 := bt_11.cell0
  have bt_v11 := bt_11.cell1
  have bt_w11 := bt_11.cell2
  have bt_x11 := bt_11.cell3
  have bt_y11 := bt_11.cell4
  have bt_z11 := bt_11.cell5
  go_upto_region 10 with fail
  go_cut [12, 13, 14] (fun sx0 sx1 sx2 wy => ∃ (Wqs : World) (gqs gqn gqm : Nat) (qsu qsv qnu qnv qmu qmv : Rv), Wqs = wy ∧ sx0 = .pointer (some ⟨gqs, 0, none⟩) ∧ sx1 = .pointer (some ⟨gqn, 0, none⟩) ∧ sx2 = .pointer (some ⟨gqm, 0, none⟩) ∧ S6 Wqs gqs (.bool qsu.s) (.slice qsu.A qsu.n qsu.c) (.slice qsu.B qsu.m qsu.d) (.bool qsv.s) (.slice qsv.A qsv.n qsv.c) (.slice qsv.B qsv.m qsv.d) ∧ S6 Wqs gqn (.bool qnu.s) (.slice qnu.A qnu.n qnu.c) (.slice qnu.B qnu.m qnu.d) (.bool qnv.s) (.slice qnv.A qnv.n qnv.c) (.slice qnv.B qnv.m qnv.d) ∧ S6 Wqs gqm (.bool qmu.s) (.slice qmu.A qmu.n qmu.c) (.slice qmu.B qmu.m qmu.d) (.bool qmv.s) (.slice qmv.A qmv.n qmv.c) (.slice qmv.B qmv.m qmv.d) ∧ Sv Wqs (w.heap.size) u v ∧ Sv Wqs (w.heap.size + 1) x y ∧ Sv Wqs (w8.heap.size) u8 v8 ∧ Sv Wqs (w10.heap.size) u10 v10 ∧ Cu Wqs u p ∧ Cu Wqs v q ∧ Cu Wqs x p' ∧ Cu Wqs y q' ∧ Cu Wqs u8 p ∧ Cu Wqs v8 X ∧ Cu Wqs u10 X ∧ Cu Wqs v10 q ∧ Cu Wqs qsu S1 ∧ Cu Wqs qsv S2 ∧ Cu Wqs qnu zA1 ∧ Cu Wqs qnv zB1 ∧ Cu Wqs qmu R1 ∧ Cu Wqs qmv R2 ∧ Below w.heap.size w Wqs)
  case first =>
    go_wp2_with fail
    have ku_12 := ku_11.drew
    have kv_12 := kv_11.drew
    have kx_12 := kx_11.drew
    have ky_12 := ky_11.drew
    have f1_12 := f1_11.drew
    have f2_12 := f2_11.drew
    have t1_12 := t1_11.drew
    have t2_12 := t2_11.drew
    have ba_12 := ba_11.drew
    have bb_12 := bb_11.drew
    have bl_12 := bl_11.drew
    have bt_12 := bt_11.drew
    have F12 := F11.drew
    refine wp_region_held_drew (S := fun w' => w'.cell? ⟨w.heap.size, 0, none⟩ = some (.bool u.s) ∧ w'.cell? ⟨w.heap.size, 1, none⟩ = some (.slice u.A u.n u.c) ∧ w'.cell? ⟨w.heap.size, 2, none⟩ = some (.slice u.B u.m u.d) ∧ w'.cell? ⟨w.heap.size, 3, none⟩ = some (.bool v.s) ∧ w'.cell? ⟨w.heap.size, 4, none⟩ = some (.slice v.A v.n v.c) ∧ w'.cell? ⟨w.heap.size, 5, none⟩ = some (.slice v.B v.m v.d) ∧ w'.cell? ⟨w.heap.size + 1, 0, none⟩ = some (.bool x.s) ∧ w'.cell? ⟨w.heap.size + 1, 1, none⟩ = some (.slice x.A x.n x.c) ∧ w'.cell? ⟨w.heap.size + 1, 2, none⟩ = some (.slice x.B x.m x.d) ∧ w'.cell? ⟨w.heap.size + 1, 3, none⟩ = some (.bool y.s) ∧ w'.cell? ⟨w.heap.size + 1, 4, none⟩ = some (.slice y.A y.n y.c) ∧ w'.cell? ⟨w.heap.size + 1, 5, none⟩ = some (.slice y.B y.m y.d)) (by kernel_rfl) ?_ (fun hHeld => ?_)
    · (try dsimp only); exact ⟨ba_12.cell0, ba_12.cell1, ba_12.cell2, ba_12.cell3, ba_12.cell4, ba_12.cell5, bb_12.cell0, bb_12.cell1, bb_12.cell2, bb_12.cell3, bb_12.cell4, bb_12.cell5⟩
    refine wpAnyH_take (i := 0) (v := ?_) rfl (by kernel_rfl) (by kernel_rfl) (by kernel_rfl) (fun _ _ _ h => h) (Or.inl ⟨by rfl, ?_⟩) (by assumption) ?_
    rotate_left 1
    · (intro w9 hSw; (try dsimp only at hSw); go_simp; try with_reducible rfl)
    try simp only [Act.put, List.getElem_toArray, List.getElem_cons_succ, List.getElem_cons_zero, List.setIfInBounds_toArray, List.set_cons_zero, List.set_cons_succ]
    refine wpAnyH_take (i := 1) (v := ?_) rfl (by kernel_rfl) (by kernel_rfl) (by kernel_rfl) (fun _ _ _ h => h) (Or.inl ⟨by rfl, ?_⟩) (by assumption) ?_
    rotate_left 1
    · (intro w9 hSw; (try dsimp only at hSw); go_simp; try with_reducible rfl)
    try simp only [Act.put, List.getElem_toArray, List.getElem_cons_succ, List.getElem_cons_zero, List.setIfInBounds_toArray, List.set_cons_zero, List.set_cons_succ]
    refine wpAnyH_take (i := 3) (v := ?_) rfl (by kernel_rfl) (by kernel_rfl) (by kernel_rfl) (fun _ _ _ h => h) (Or.inl ⟨by rfl, ?_⟩) (by assumption) ?_
    rotate_left 1
    · (intro w9 hSw; (try dsimp only at hSw); go_simp; try with_reducible rfl)
    try simp only [Act.put, List.getElem_toArray, List.getElem_cons_succ, List.getElem_cons_zero, List.setIfInBounds_toArray, List.set_cons_zero, List.set_cons_succ]
    refine wpAnyH_take (i := 4) (v := ?_) rfl (by kernel_rfl) (by kernel_rfl) (by kernel_rfl) (fun _ _ _ h => h) (Or.inl ⟨by rfl, ?_⟩) (by assumption) ?_
    rotate_left 1
    · (intro w9 hSw; (try dsimp only at hSw); go_simp; try with_reducible rfl)
    try simp only [Act.put, List.getElem_toArray, List.getElem_cons_succ, List.getElem_cons_zero, List.setIfInBounds_toArray, List.set_cons_zero, List.set_cons_succ]
    refine wpAnyH_take (i := 6) (v := ?_) rfl (by kernel_rfl) (by kernel_rfl) (by kernel_rfl) (fun _ _ _ h => h) (Or.inl ⟨by rfl, ?_⟩) (by assumption) ?_
    rotate_left 1
    · (intro w9 hSw; (try dsimp only at hSw); go_simp; try with_reducible rfl)
    try simp only [Act.put, List.getElem_toArray, List.getElem_cons_succ, List.getElem_cons_zero, List.setIfInBounds_toArray, List.set_cons_zero, List.set_cons_succ]
    refine wpAnyH_ind (σ := Bool × Bool × Bool × Nat) (fun s => (if s.1 = true then 0 else 1) + (if s.2.1 = true then 0 else 1) + (if s.2.2.1 = true then 0 else 1) + (3 - s.2.2.2) + 3) (fun s => #[true, true, decide (0 < s.2.2.2), true, true, decide (1 < s.2.2.2), true, decide (2 < s.2.2.2), s.1, s.2.1, s.2.2.1, false, false, false]) (fun a0 s a' w' => (Sv w' (w.heap.size) u v ∧ Sv w' (w.heap.size + 1) x y ∧ Sv w' (w8.heap.size) u8 v8 ∧ Sv w' (w10.heap.size) u10 v10 ∧ Cu w' u p ∧ Cu w' v q ∧ Cu w' x p' ∧ Cu w' y q' ∧ Cu w' u8 p ∧ Cu w' v8 X ∧ Cu w' u10 X ∧ Cu w' v10 q ∧ Below w.heap.size w w') ∧ match s with | (false, false, false, 0) => a' = a0 | (false, false, false, 1) => ∃ (p0 q0 : Rv), a' = (a0.put (some 50) (.agg #[.bool p0.s, .slice p0.A p0.n p0.c, .slice p0.B p0.m p0.d, .bool q0.s, .slice q0.A q0.n q0.c, .slice q0.B q0.m q0.d])) ∧ Cu w' p0 S1 ∧ Cu w' q0 S2 | (false, false, false, 2) => ∃ (p0 q0 : Rv) (p1 q1 : Rv), a' = ((a0.put (some 50) (.agg #[.bool p0.s, .slice p0.A p0.n p0.c, .slice p0.B p0.m p0.d, .bool q0.s, .slice q0.A q0.n q0.c, .slice q0.B q0.m q0.d])).put (some 53) (.agg #[.bool p1.s, .slice p1.A p1.n p1.c, .slice p1.B p1.m p1.d, .bool q1.s, .slice q1.A q1.n q1.c, .slice q1.B q1.m q1.d])) ∧ Cu w' p0 S1 ∧ Cu w' q0 S2 ∧ Cu w' p1 zA1 ∧ Cu w' q1 zB1 | (false, false, false, 3) => ∃ (p0 q0 : Rv) (p1 q1 : Rv) (p2 q2 : Rv), a' = (((a0.put (some 50) (.agg #[.bool p0.s, .slice p0.A p0.n p0.c, .slice p0.B p0.m p0.d, .bool q0.s, .slice q0.A q0.n q0.c, .slice q0.B q0.m q0.d])).put (some 53) (.agg #[.bool p1.s, .slice p1.A p1.n p1.c, .slice p1.B p1.m p1.d, .bool q1.s, .slice q1.A q1.n q1.c, .slice q1.B q1.m q1.d])).put (some 55) (.agg #[.bool p2.s, .slice p2.A p2.n p2.c, .slice p2.B p2.m p2.d, .bool q2.s, .slice q2.A q2.n q2.c, .slice q2.B q2.m q2.d])) ∧ Cu w' p0 S1 ∧ Cu w' q0 S2 ∧ Cu w' p1 zA1 ∧ Cu w' q1 zB1 ∧ Cu w' p2 R1 ∧ Cu w' q2 R2 | (false, false, true, 0) => ∃ (h2 : Nat), a' = (a0.put (some 14) (.pointer (some ⟨h2, 0, none⟩))) ∧ S6 w' h2 (.bool false) (.slice none 0 0) (.slice none 0 0) (.bool false) (.slice none 0 0) (.slice none 0 0) ∧ w.heap.size ≤ h2 ∧ w.heap.size ≠ h2 ∧ w.heap.size + 1 ≠ h2 ∧ w8.heap.size ≠ h2 ∧ w10.heap.size ≠ h2 | (false, false, true, 1) => ∃ (h2 : Nat) (p0 q0 : Rv), a' = ((a0.put (some 14) (.pointer (some ⟨h2, 0, none⟩))).put (some 50) (.agg #[.bool p0.s, .slice p0.A p0.n p0.c, .slice p0.B p0.m p0.d, .bool q0.s, .slice q0.A q0.n q0.c, .slice q0.B q0.m q0.d])) ∧ S6 w' h2 (.bool false) (.slice none 0 0) (.slice none 0 0) (.bool false) (.slice none 0 0) (.slice none 0 0) ∧ w.heap.size ≤ h2 ∧ w.heap.size ≠ h2 ∧ w.heap.size + 1 ≠ h2 ∧ w8.heap.size ≠ h2 ∧ w10.heap.size ≠ h2 ∧ Cu w' p0 S1 ∧ Cu w' q0 S2 | (false, false, true, 2) => ∃ (h2 : Nat) (p0 q0 : Rv) (p1 q1 : Rv), a' = (((a0.put (some 14) (.pointer (some ⟨h2, 0, none⟩))).put (some 50) (.agg #[.bool p0.s, .slice p0.A p0.n p0.c, .slice p0.B p0.m p0.d, .bool q0.s, .slice q0.A q0.n q0.c, .slice q0.B q0.m q0.d])).put (some 53) (.agg #[.bool p1.s, .slice p1.A p1.n p1.c, .slice p1.B p1.m p1.d, .bool q1.s, .slice q1.A q1.n q1.c, .slice q1.B q1.m q1.d])) ∧ S6 w' h2 (.bool false) (.slice none 0 0) (.slice none 0 0) (.bool false) (.slice none 0 0) (.slice none 0 0) ∧ w.heap.size ≤ h2 ∧ w.heap.size ≠ h2 ∧ w.heap.size + 1 ≠ h2 ∧ w8.heap.size ≠ h2 ∧ w10.heap.size ≠ h2 ∧ Cu w' p0 S1 ∧ Cu w' q0 S2 ∧ Cu w' p1 zA1 ∧ Cu w' q1 zB1 | (false, false, true, 3) => ∃ (h2 : Nat) (p0 q0 : Rv) (p1 q1 : Rv) (p2 q2 : Rv), a' = ((((a0.put (some 14) (.pointer (some ⟨h2, 0, none⟩))).put (some 50) (.agg #[.bool p0.s, .slice p0.A p0.n p0.c, .slice p0.B p0.m p0.d, .bool q0.s, .slice q0.A q0.n q0.c, .slice q0.B q0.m q0.d])).put (some 53) (.agg #[.bool p1.s, .slice p1.A p1.n p1.c, .slice p1.B p1.m p1.d, .bool q1.s, .slice q1.A q1.n q1.c, .slice q1.B q1.m q1.d])).put (some 55) (.agg #[.bool p2.s, .slice p2.A p2.n p2.c, .slice p2.B p2.m p2.d, .bool q2.s, .slice q2.A q2.n q2.c, .slice q2.B q2.m q2.d])) ∧ S6 w' h2 (.bool false) (.slice none 0 0) (.slice none 0 0) (.bool false) (.slice none 0 0) (.slice none 0 0) ∧ w.heap.size ≤ h2 ∧ w.heap.size ≠ h2 ∧ w.heap.size + 1 ≠ h2 ∧ w8.heap.size ≠ h2 ∧ w10.heap.size ≠ h2 ∧ Cu w' p0 S1 ∧ Cu w' q0 S2 ∧ Cu w' p1 zA1 ∧ Cu w' q1 zB1 ∧ Cu w' p2 R1 ∧ Cu w' q2 R2 | (false, true, false, 0) => ∃ (h1 : Nat), a' = (a0.put (some 13) (.pointer (some ⟨h1, 0, none⟩))) ∧ S6 w' h1 (.bool false) (.slice none 0 0) (.slice none 0 0) (.bool false) (.slice none 0 0) (.slice none 0 0) ∧ w.heap.size ≤ h1 ∧ w.heap.size ≠ h1 ∧ w.heap.size + 1 ≠ h1 ∧ w8.heap.size ≠ h1 ∧ w10.heap.size ≠ h1 | (false, true, false, 1) => ∃ (h1 : Nat) (p0 q0 : Rv), a' = ((a0.put (some 13) (.pointer (some ⟨h1, 0, none⟩))).put (some 50) (.agg #[.bool p0.s, .slice p0.A p0.n p0.c, .slice p0.B p0.m p0.d, .bool q0.s, .slice q0.A q0.n q0.c, .slice q0.B q0.m q0.d])) ∧ S6 w' h1 (.bool false) (.slice none 0 0) (.slice none 0 0) (.bool false) (.slice none 0 0) (.slice none 0 0) ∧ w.heap.size ≤ h1 ∧ w.heap.size ≠ h1 ∧ w.heap.size + 1 ≠ h1 ∧ w8.heap.size ≠ h1 ∧ w10.heap.size ≠ h1 ∧ Cu w' p0 S1 ∧ Cu w' q0 S2 | (false, true, false, 2) => ∃ (h1 : Nat) (p0 q0 : Rv) (p1 q1 : Rv), a' = (((a0.put (some 13) (.pointer (some ⟨h1, 0, none⟩))).put (some 50) (.agg #[.bool p0.s, .slice p0.A p0.n p0.c, .slice p0.B p0.m p0.d, .bool q0.s, .slice q0.A q0.n q0.c, .slice q0.B q0.m q0.d])).put (some 53) (.agg #[.bool p1.s, .slice p1.A p1.n p1.c, .slice p1.B p1.m p1.d, .bool q1.s, .slice q1.A q1.n q1.c, .slice q1.B q1.m q1.d])) ∧ S6 w' h1 (.bool false) (.slice none 0 0) (.slice none 0 0) (.bool false) (.slice none 0 0) (.slice none 0 0) ∧ w.heap.size ≤ h1 ∧ w.heap.size ≠ h1 ∧ w.heap.size + 1 ≠ h1 ∧ w8.heap.size ≠ h1 ∧ w10.heap.size ≠ h1 ∧ Cu w' p0 S1 ∧ Cu w' q0 S2 ∧ Cu w' p1 zA1 ∧ Cu w' q1 zB1 | (false, true, false, 3) => ∃ (h1 : Nat) (p0 q0 : Rv) (p1 q1 : Rv) (p2 q2 : Rv), a' = ((((a0.put (some 13) (.pointer (some ⟨h1, 0, none⟩))).put (some 50) (.agg #[.bool p0.s, .slice p0.A p0.n p0.c, .slice p0.B p0.m p0.d, .bool q0.s, .slice q0.A q0.n q0.c, .slice q0.B q0.m q0.d])).put (some 53) (.agg #[.bool p1.s, .slice p1.A p1.n p1.c, .slice p1.B p1.m p1.d, .bool q1.s, .slice q1.A q1.n q1.c, .slice q1.B q1.m q1.d])).put (some 55) (.agg #[.bool p2.s, .slice p2.A p2.n p2.c, .slice p2.B p2.m p2.d, .bool q2.s, .slice q2.A q2.n q2.c, .slice q2.B q2.m q2.d])) ∧ S6 w' h1 (.bool false) (.slice none 0 0) (.slice none 0 0) (.bool false) (.slice none 0 0) (.slice none 0 0) ∧ w.heap.size ≤ h1 ∧ w.heap.size ≠ h1 ∧ w.heap.size + 1 ≠ h1 ∧ w8.heap.size ≠ h1 ∧ w10.heap.size ≠ h1 ∧ Cu w' p0 S1 ∧ Cu w' q0 S2 ∧ Cu w' p1 zA1 ∧ Cu w' q1 zB1 ∧ Cu w' p2 R1 ∧ Cu w' q2 R2 | (false, true, true, 0) => ∃ (h1 : Nat) (h2 : Nat), a' = ((a0.put (some 13) (.pointer (some ⟨h1, 0, none⟩))).put (some 14) (.pointer (some ⟨h2, 0, none⟩))) ∧ S6 w' h1 (.bool false) (.slice none 0 0) (.slice none 0 0) (.bool false) (.slice none 0 0) (.slice none 0 0) ∧ w.heap.size ≤ h1 ∧ w.heap.size ≠ h1 ∧ w.heap.size + 1 ≠ h1 ∧ w8.heap.size ≠ h1 ∧ w10.heap.size ≠ h1 ∧ S6 w' h2 (.bool false) (.slice none 0 0) (.slice none 0 0) (.bool false) (.slice none 0 0) (.slice none 0 0) ∧ w.heap.size ≤ h2 ∧ w.heap.size ≠ h2 ∧ w.heap.size + 1 ≠ h2 ∧ w8.heap.size ≠ h2 ∧ w10.heap.size ≠ h2 ∧ h1 ≠ h2 | (false, true, true, 1) => ∃ (h1 : Nat) (h2 : Nat) (p0 q0 : Rv), a' = (((a0.put (some 13) (.pointer (some ⟨h1, 0, none⟩))).put (some 14) (.pointer (some ⟨h2, 0, none⟩))).put (some 50) (.agg #[.bool p0.s, .slice p0.A p0.n p0.c, .slice p0.B p0.m p0.d, .bool q0.s, .slice q0.A q0.n q0.c, .slice q0.B q0.m q0.d])) ∧ S6 w' h1 (.bool false) (.slice none 0 0) (.slice none 0 0) (.bool false) (.slice none 0 0) (.slice none 0 0) ∧ w.heap.size ≤ h1 ∧ w.heap.size ≠ h1 ∧ w.heap.size + 1 ≠ h1 ∧ w8.heap.size ≠ h1 ∧ w10.heap.size ≠ h1 ∧ S6 w' h2 (.bool false) (.slice none 0 0) (.slice none 0 0) (.bool false) (.slice none 0 0) (.slice none 0 0) ∧ w.heap.size ≤ h2 ∧ w.heap.size ≠ h2 ∧ w.heap.size + 1 ≠ h2 ∧ w8.heap.size ≠ h2 ∧ w10.heap.size ≠ h2 ∧ h1 ≠ h2 ∧ Cu w' p0 S1 ∧ Cu w' q0 S2 | (false, true, true, 2) => ∃ (h1 : Nat) (h2 : Nat) (p0 q0 : Rv) (p1 q1 : Rv), a' = ((((a0.put (some 13) (.pointer (some ⟨h1, 0, none⟩))).put (some 14) (.pointer (some ⟨h2, 0, none⟩))).put (some 50) (.agg #[.bool p0.s, .slice p0.A p0.n p0.c, .slice p0.B p0.m p0.d, .bool q0.s, .slice q0.A q0.n q0.c, .slice q0.B q0.m q0.d])).put (some 53) (.agg #[.bool p1.s, .slice p1.A p1.n p1.c, .slice p1.B p1.m p1.d, .bool q1.s, .slice q1.A q1.n q1.c, .slice q1.B q1.m q1.d])) ∧ S6 w' h1 (.bool false) (.slice none 0 0) (.slice none 0 0) (.bool false) (.slice none 0 0) (.slice none 0 0) ∧ w.heap.size ≤ h1 ∧ w.heap.size ≠ h1 ∧ w.heap.size + 1 ≠ h1 ∧ w8.heap.size ≠ h1 ∧ w10.heap.size ≠ h1 ∧ S6 w' h2 (.bool false) (.slice none 0 0) (.slice none 0 0) (.bool false) (.slice none 0 0) (.slice none 0 0) ∧ w.heap.size ≤ h2 ∧ w.heap.size ≠ h2 ∧ w.heap.size + 1 ≠ h2 ∧ w8.heap.size ≠ h2 ∧ w10.heap.size ≠ h2 ∧ h1 ≠ h2 ∧ Cu w' p0 S1 ∧ Cu w' q0 S2 ∧ Cu w' p1 zA1 ∧ Cu w' q1 zB1 | (false, true, true, 3) => ∃ (h1 : Nat) (h2 : Nat) (p0 q0 : Rv) (p1 q1 : Rv) (p2 q2 : Rv), a' = (((((a0.put (some 13) (.pointer (some ⟨h1, 0, none⟩))).put (some 14) (.pointer (some ⟨h2, 0, none⟩))).put (some 50) (.agg #[.bool p0.s, .slice p0.A p0.n p0.c, .slice p0.B p0.m p0.d, .bool q0.s, .slice q0.A q0.n q0.c, .slice q0.B q0.m q0.d])).put (some 53) (.agg #[.bool p1.s, .slice p1.A p1.n p1.c, .slice p1.B p1.m p1.d, .bool q1.s, .slice q1.A q1.n q1.c, .slice q1.B q1.m q1.d])).put (some 55) (.agg #[.bool p2.s, .slice p2.A p2.n p2.c, .slice p2.B p2.m p2.d, .bool q2.s, .slice q2.A q2.n q2.c, .slice q2.B q2.m q2.d])) ∧ S6 w' h1 (.bool false) (.slice none 0 0) (.slice none 0 0) (.bool false) (.slice none 0 0) (.slice none 0 0) ∧ w.heap.size ≤ h1 ∧ w.heap.size ≠ h1 ∧ w.heap.size + 1 ≠ h1 ∧ w8.heap.size ≠ h1 ∧ w10.heap.size ≠ h1 ∧ S6 w' h2 (.bool false) (.slice none 0 0) (.slice none 0 0) (.bool false) (.slice none 0 0) (.slice none 0 0) ∧ w.heap.size ≤ h2 ∧ w.heap.size ≠ h2 ∧ w.heap.size + 1 ≠ h2 ∧ w8.heap.size ≠ h2 ∧ w10.heap.size ≠ h2 ∧ h1 ≠ h2 ∧ Cu w' p0 S1 ∧ Cu w' q0 S2 ∧ Cu w' p1 zA1 ∧ Cu w' q1 zB1 ∧ Cu w' p2 R1 ∧ Cu w' q2 R2 | (true, false, false, 0) => ∃ (h0 : Nat), a' = (a0.put (some 12) (.pointer (some ⟨h0, 0, none⟩))) ∧ S6 w' h0 (.bool false) (.slice none 0 0) (.slice none 0 0) (.bool false) (.slice none 0 0) (.slice none 0 0) ∧ w.heap.size ≤ h0 ∧ w.heap.size ≠ h0 ∧ w.heap.size + 1 ≠ h0 ∧ w8.heap.size ≠ h0 ∧ w10.heap.size ≠ h0 | (true, false, false, 1) => ∃ (h0 : Nat) (p0 q0 : Rv), a' = ((a0.put (some 12) (.pointer (some ⟨h0, 0, none⟩))).put (some 50) (.agg #[.bool p0.s, .slice p0.A p0.n p0.c, .slice p0.B p0.m p0.d, .bool q0.s, .slice q0.A q0.n q0.c, .slice q0.B q0.m q0.d])) ∧ S6 w' h0 (.bool false) (.slice none 0 0) (.slice none 0 0) (.bool false) (.slice none 0 0) (.slice none 0 0) ∧ w.heap.size ≤ h0 ∧ w.heap.size ≠ h0 ∧ w.heap.size + 1 ≠ h0 ∧ w8.heap.size ≠ h0 ∧ w10.heap.size ≠ h0 ∧ Cu w' p0 S1 ∧ Cu w' q0 S2 | (true, false, false, 2) => ∃ (h0 : Nat) (p0 q0 : Rv) (p1 q1 : Rv), a' = (((a0.put (some 12) (.pointer (some ⟨h0, 0, none⟩))).put (some 50) (.agg #[.bool p0.s, .slice p0.A p0.n p0.c, .slice p0.B p0.m p0.d, .bool q0.s, .slice q0.A q0.n q0.c, .slice q0.B q0.m q0.d])).put (some 53) (.agg #[.bool p1.s, .slice p1.A p1.n p1.c, .slice p1.B p1.m p1.d, .bool q1.s, .slice q1.A q1.n q1.c, .slice q1.B q1.m q1.d])) ∧ S6 w' h0 (.bool false) (.slice none 0 0) (.slice none 0 0) (.bool false) (.slice none 0 0) (.slice none 0 0) ∧ w.heap.size ≤ h0 ∧ w.heap.size ≠ h0 ∧ w.heap.size + 1 ≠ h0 ∧ w8.heap.size ≠ h0 ∧ w10.heap.size ≠ h0 ∧ Cu w' p0 S1 ∧ Cu w' q0 S2 ∧ Cu w' p1 zA1 ∧ Cu w' q1 zB1 | (true, false, false, 3) => ∃ (h0 : Nat) (p0 q0 : Rv) (p1 q1 : Rv) (p2 q2 : Rv), a' = ((((a0.put (some 12) (.pointer (some ⟨h0, 0, none⟩))).put (some 50) (.agg #[.bool p0.s, .slice p0.A p0.n p0.c, .slice p0.B p0.m p0.d, .bool q0.s, .slice q0.A q0.n q0.c, .slice q0.B q0.m q0.d])).put (some 53) (.agg #[.bool p1.s, .slice p1.A p1.n p1.c, .slice p1.B p1.m p1.d, .bool q1.s, .slice q1.A q1.n q1.c, .slice q1.B q1.m q1.d])).put (some 55) (.agg #[.bool p2.s, .slice p2.A p2.n p2.c, .slice p2.B p2.m p2.d, .bool q2.s, .slice q2.A q2.n q2.c, .slice q2.B q2.m q2.d])) ∧ S6 w' h0 (.bool false) (.slice none 0 0) (.slice none 0 0) (.bool false) (.slice none 0 0) (.slice none 0 0) ∧ w.heap.size ≤ h0 ∧ w.heap.size ≠ h0 ∧ w.heap.size + 1 ≠ h0 ∧ w8.heap.size ≠ h0 ∧ w10.heap.size ≠ h0 ∧ Cu w' p0 S1 ∧ Cu w' q0 S2 ∧ Cu w' p1 zA1 ∧ Cu w' q1 zB1 ∧ Cu w' p2 R1 ∧ Cu w' q2 R2 | (true, false, true, 0) => ∃ (h0 : Nat) (h2 : Nat), a' = ((a0.put (some 12) (.pointer (some ⟨h0, 0, none⟩))).put (some 14) (.pointer (some ⟨h2, 0, none⟩))) ∧ S6 w' h0 (.bool false) (.slice none 0 0) (.slice none 0 0) (.bool false) (.slice none 0 0) (.slice none 0 0) ∧ w.heap.size ≤ h0 ∧ w.heap.size ≠ h0 ∧ w.heap.size + 1 ≠ h0 ∧ w8.heap.size ≠ h0 ∧ w10.heap.size ≠ h0 ∧ S6 w' h2 (.bool false) (.slice none 0 0) (.slice none 0 0) (.bool false) (.slice none 0 0) (.slice none 0 0) ∧ w.heap.size ≤ h2 ∧ w.heap.size ≠ h2 ∧ w.heap.size + 1 ≠ h2 ∧ w8.heap.size ≠ h2 ∧ w10.heap.size ≠ h2 ∧ h0 ≠ h2 | (true, false, true, 1) => ∃ (h0 : Nat) (h2 : Nat) (p0 q0 : Rv), a' = (((a0.put (some 12) (.pointer (some ⟨h0, 0, none⟩))).put (some 14) (.pointer (some ⟨h2, 0, none⟩))).put (some 50) (.agg #[.bool p0.s, .slice p0.A p0.n p0.c, .slice p0.B p0.m p0.d, .bool q0.s, .slice q0.A q0.n q0.c, .slice q0.B q0.m q0.d])) ∧ S6 w' h0 (.bool false) (.slice none 0 0) (.slice none 0 0) (.bool false) (.slice none 0 0) (.slice none 0 0) ∧ w.heap.size ≤ h0 ∧ w.heap.size ≠ h0 ∧ w.heap.size + 1 ≠ h0 ∧ w8.heap.size ≠ h0 ∧ w10.heap.size ≠ h0 ∧ S6 w' h2 (.bool false) (.slice none 0 0) (.slice none 0 0) (.bool false) (.slice none 0 0) (.slice none 0 0) ∧ w.heap.size ≤ h2 ∧ w.heap.size ≠ h2 ∧ w.heap.size + 1 ≠ h2 ∧ w8.heap.size ≠ h2 ∧ w10.heap.size ≠ h2 ∧ h0 ≠ h2 ∧ Cu w' p0 S1 ∧ Cu w' q0 S2 | (true, false, true, 2) => ∃ (h0 : Nat) (h2 : Nat) (p0 q0 : Rv) (p1 q1 : Rv), a' = ((((a0.put (some 12) (.pointer (some ⟨h0, 0, none⟩))).put (some 14) (.pointer (some ⟨h2, 0, none⟩))).put (some 50) (.agg #[.bool p0.s, .slice p0.A p0.n p0.c, .slice p0.B p0.m p0.d, .bool q0.s, .slice q0.A q0.n q0.c, .slice q0.B q0.m q0.d])).put (some 53) (.agg #[.bool p1.s, .slice p1.A p1.n p1.c, .slice p1.B p1.m p1.d, .bool q1.s, .slice q1.A q1.n q1.c, .slice q1.B q1.m q1.d])) ∧ S6 w' h0 (.bool false) (.slice none 0 0) (.slice none 0 0) (.bool false) (.slice none 0 0) (.slice none 0 0) ∧ w.heap.size ≤ h0 ∧ w.heap.size ≠ h0 ∧ w.heap.size + 1 ≠ h0 ∧ w8.heap.size ≠ h0 ∧ w10.heap.size ≠ h0 ∧ S6 w' h2 (.bool false) (.slice none 0 0) (.slice none 0 0) (.bool false) (.slice none 0 0) (.slice none 0 0) ∧ w.heap.size ≤ h2 ∧ w.heap.size ≠ h2 ∧ w.heap.size + 1 ≠ h2 ∧ w8.heap.size ≠ h2 ∧ w10.heap.size ≠ h2 ∧ h0 ≠ h2 ∧ Cu w' p0 S1 ∧ Cu w' q0 S2 ∧ Cu w' p1 zA1 ∧ Cu w' q1 zB1 | (true, false, true, 3) => ∃ (h0 : Nat) (h2 : Nat) (p0 q0 : Rv) (p1 q1 : Rv) (p2 q2 : Rv), a' = (((((a0.put (some 12) (.pointer (some ⟨h0, 0, none⟩))).put (some 14) (.pointer (some ⟨h2, 0, none⟩))).put (some 50) (.agg #[.bool p0.s, .slice p0.A p0.n p0.c, .slice p0.B p0.m p0.d, .bool q0.s, .slice q0.A q0.n q0.c, .slice q0.B q0.m q0.d])).put (some 53) (.agg #[.bool p1.s, .slice p1.A p1.n p1.c, .slice p1.B p1.m p1.d, .bool q1.s, .slice q1.A q1.n q1.c, .slice q1.B q1.m q1.d])).put (some 55) (.agg #[.bool p2.s, .slice p2.A p2.n p2.c, .slice p2.B p2.m p2.d, .bool q2.s, .slice q2.A q2.n q2.c, .slice q2.B q2.m q2.d])) ∧ S6 w' h0 (.bool false) (.slice none 0 0) (.slice none 0 0) (.bool false) (.slice none 0 0) (.slice none 0 0) ∧ w.heap.size ≤ h0 ∧ w.heap.size ≠ h0 ∧ w.heap.size + 1 ≠ h0 ∧ w8.heap.size ≠ h0 ∧ w10.heap.size ≠ h0 ∧ S6 w' h2 (.bool false) (.slice none 0 0) (.slice none 0 0) (.bool false) (.slice none 0 0) (.slice none 0 0) ∧ w.heap.size ≤ h2 ∧ w.heap.size ≠ h2 ∧ w.heap.size + 1 ≠ h2 ∧ w8.heap.size ≠ h2 ∧ w10.heap.size ≠ h2 ∧ h0 ≠ h2 ∧ Cu w' p0 S1 ∧ Cu w' q0 S2 ∧ Cu w' p1 zA1 ∧ Cu w' q1 zB1 ∧ Cu w' p2 R1 ∧ Cu w' q2 R2 | (true, true, false, 0) => ∃ (h0 : Nat) (h1 : Nat), a' = ((a0.put (some 12) (.pointer (some ⟨h0, 0, none⟩))).put (some 13) (.pointer (some ⟨h1, 0, none⟩))) ∧ S6 w' h0 (.bool false) (.slice none 0 0) (.slice none 0 0) (.bool false) (.slice none 0 0) (.slice none 0 0) ∧ w.heap.size ≤ h0 ∧ w.heap.size ≠ h0 ∧ w.heap.size + 1 ≠ h0 ∧ w8.heap.size ≠ h0 ∧ w10.heap.size ≠ h0 ∧ S6 w' h1 (.bool false) (.slice none 0 0) (.slice none 0 0) (.bool false) (.slice none 0 0) (.slice none 0 0) ∧ w.heap.size ≤ h1 ∧ w.heap.size ≠ h1 ∧ w.heap.size + 1 ≠ h1 ∧ w8.heap.size ≠ h1 ∧ w10.heap.size ≠ h1 ∧ h0 ≠ h1 | (true, true, false, 1) => ∃ (h0 : Nat) (h1 : Nat) (p0 q0 : Rv), a' = (((a0.put (some 12) (.pointer (some ⟨h0, 0, none⟩))).put (some 13) (.pointer (some ⟨h1, 0, none⟩))).put (some 50) (.agg #[.bool p0.s, .slice p0.A p0.n p0.c, .slice p0.B p0.m p0.d, .bool q0.s, .slice q0.A q0.n q0.c, .slice q0.B q0.m q0.d])) ∧ S6 w' h0 (.bool false) (.slice none 0 0) (.slice none 0 0) (.bool false) (.slice none 0 0) (.slice none 0 0) ∧ w.heap.size ≤ h0 ∧ w.heap.size ≠ h0 ∧ w.heap.size + 1 ≠ h0 ∧ w8.heap.size ≠ h0 ∧ w10.heap.size ≠ h0 ∧ S6 w' h1 (.bool false) (.slice none 0 0) (.slice none 0 0) (.bool false) (.slice none 0 0) (.slice none 0 0) ∧ w.heap.size ≤ h1 ∧ w.heap.size ≠ h1 ∧ w.heap.size + 1 ≠ h1 ∧ w8.heap.size ≠ h1 ∧ w10.heap.size ≠ h1 ∧ h0 ≠ h1 ∧ Cu w' p0 S1 ∧ Cu w' q0 S2 | (true, true, false, 2) => ∃ (h0 : Nat) (h1 : Nat) (p0 q0 : Rv) (p1 q1 : Rv), a' = ((((a0.put (some 12) (.pointer (some ⟨h0, 0, none⟩))).put (some 13) (.pointer (some ⟨h1, 0, none⟩))).put (some 50) (.agg #[.bool p0.s, .slice p0.A p0.n p0.c, .slice p0.B p0.m p0.d, .bool q0.s, .slice q0.A q0.n q0.c, .slice q0.B q0.m q0.d])).put (some 53) (.agg #[.bool p1.s, .slice p1.A p1.n p1.c, .slice p1.B p1.m p1.d, .bool q1.s, .slice q1.A q1.n q1.c, .slice q1.B q1.m q1.d])) ∧ S6 w' h0 (.bool false) (.slice none 0 0) (.slice none 0 0) (.bool false) (.slice none 0 0) (.slice none 0 0) ∧ w.heap.size ≤ h0 ∧ w.heap.size ≠ h0 ∧ w.heap.size + 1 ≠ h0 ∧ w8.heap.size ≠ h0 ∧ w10.heap.size ≠ h0 ∧ S6 w' h1 (.bool false) (.slice none 0 0) (.slice none 0 0) (.bool false) (.slice none 0 0) (.slice none 0 0) ∧ w.heap.size ≤ h1 ∧ w.heap.size ≠ h1 ∧ w.heap.size + 1 ≠ h1 ∧ w8.heap.size ≠ h1 ∧ w10.heap.size ≠ h1 ∧ h0 ≠ h1 ∧ Cu w' p0 S1 ∧ Cu w' q0 S2 ∧ Cu w' p1 zA1 ∧ Cu w' q1 zB1 | (true, true, false, 3) => ∃ (h0 : Nat) (h1 : Nat) (p0 q0 : Rv) (p1 q1 : Rv) (p2 q2 : Rv), a' = (((((a0.put (some 12) (.pointer (some ⟨h0, 0, none⟩))).put (some 13) (.pointer (some ⟨h1, 0, none⟩))).put (some 50) (.agg #[.bool p0.s, .slice p0.A p0.n p0.c, .slice p0.B p0.m p0.d, .bool q0.s, .slice q0.A q0.n q0.c, .slice q0.B q0.m q0.d])).put (some 53) (.agg #[.bool p1.s, .slice p1.A p1.n p1.c, .slice p1.B p1.m p1.d, .bool q1.s, .slice q1.A q1.n q1.c, .slice q1.B q1.m q1.d])).put (some 55) (.agg #[.bool p2.s, .slice p2.A p2.n p2.c, .slice p2.B p2.m p2.d, .bool q2.s, .slice q2.A q2.n q2.c, .slice q2.B q2.m q2.d])) ∧ S6 w' h0 (.bool false) (.slice none 0 0) (.slice none 0 0) (.bool false) (.slice none 0 0) (.slice none 0 0) ∧ w.heap.size ≤ h0 ∧ w.heap.size ≠ h0 ∧ w.heap.size + 1 ≠ h0 ∧ w8.heap.size ≠ h0 ∧ w10.heap.size ≠ h0 ∧ S6 w' h1 (.bool false) (.slice none 0 0) (.slice none 0 0) (.bool false) (.slice none 0 0) (.slice none 0 0) ∧ w.heap.size ≤ h1 ∧ w.heap.size ≠ h1 ∧ w.heap.size + 1 ≠ h1 ∧ w8.heap.size ≠ h1 ∧ w10.heap.size ≠ h1 ∧ h0 ≠ h1 ∧ Cu w' p0 S1 ∧ Cu w' q0 S2 ∧ Cu w' p1 zA1 ∧ Cu w' q1 zB1 ∧ Cu w' p2 R1 ∧ Cu w' q2 R2 | (true, true, true, 0) => ∃ (h0 : Nat) (h1 : Nat) (h2 : Nat), a' = (((a0.put (some 12) (.pointer (some ⟨h0, 0, none⟩))).put (some 13) (.pointer (some ⟨h1, 0, none⟩))).put (some 14) (.pointer (some ⟨h2, 0, none⟩))) ∧ S6 w' h0 (.bool false) (.slice none 0 0) (.slice none 0 0) (.bool false) (.slice none 0 0) (.slice none 0 0) ∧ w.heap.size ≤ h0 ∧ w.heap.size ≠ h0 ∧ w.heap.size + 1 ≠ h0 ∧ w8.heap.size ≠ h0 ∧ w10.heap.size ≠ h0 ∧ S6 w' h1 (.bool false) (.slice none 0 0) (.slice none 0 0) (.bool false) (.slice none 0 0) (.slice none 0 0) ∧ w.heap.size ≤ h1 ∧ w.heap.size ≠ h1 ∧ w.heap.size + 1 ≠ h1 ∧ w8.heap.size ≠ h1 ∧ w10.heap.size ≠ h1 ∧ h0 ≠ h1 ∧ S6 w' h2 (.bool false) (.slice none 0 0) (.slice none 0 0) (.bool false) (.slice none 0 0) (.slice none 0 0) ∧ w.heap.size ≤ h2 ∧ w.heap.size ≠ h2 ∧ w.heap.size + 1 ≠ h2 ∧ w8.heap.size ≠ h2 ∧ w10.heap.size ≠ h2 ∧ h0 ≠ h2 ∧ h1 ≠ h2 | (true, true, true, 1) => ∃ (h0 : Nat) (h1 : Nat) (h2 : Nat) (p0 q0 : Rv), a' = ((((a0.put (some 12) (.pointer (some ⟨h0, 0, none⟩))).put (some 13) (.pointer (some ⟨h1, 0, none⟩))).put (some 14) (.pointer (some ⟨h2, 0, none⟩))).put (some 50) (.agg #[.bool p0.s, .slice p0.A p0.n p0.c, .slice p0.B p0.m p0.d, .bool q0.s, .slice q0.A q0.n q0.c, .slice q0.B q0.m q0.d])) ∧ S6 w' h0 (.bool false) (.slice none 0 0) (.slice none 0 0) (.bool false) (.slice none 0 0) (.slice none 0 0) ∧ w.heap.size ≤ h0 ∧ w.heap.size ≠ h0 ∧ w.heap.size + 1 ≠ h0 ∧ w8.heap.size ≠ h0 ∧ w10.heap.size ≠ h0 ∧ S6 w' h1 (.bool false) (.slice none 0 0) (.slice none 0 0) (.bool false) (.slice none 0 0) (.slice none 0 0) ∧ w.heap.size ≤ h1 ∧ w.heap.size ≠ h1 ∧ w.heap.size + 1 ≠ h1 ∧ w8.heap.size ≠ h1 ∧ w10.heap.size ≠ h1 ∧ h0 ≠ h1 ∧ S6 w' h2 (.bool false) (.slice none 0 0) (.slice none 0 0) (.bool false) (.slice none 0 0) (.slice none 0 0) ∧ w.heap.size ≤ h2 ∧ w.heap.size ≠ h2 ∧ w.heap.size + 1 ≠ h2 ∧ w8.heap.size ≠ h2 ∧ w10.heap.size ≠ h2 ∧ h0 ≠ h2 ∧ h1 ≠ h2 ∧ Cu w' p0 S1 ∧ Cu w' q0 S2 | (true, true, true, 2) => ∃ (h0 : Nat) (h1 : Nat) (h2 : Nat) (p0 q0 : Rv) (p1 q1 : Rv), a' = (((((a0.put (some 12) (.pointer (some ⟨h0, 0, none⟩))).put (some 13) (.pointer (some ⟨h1, 0, none⟩))).put (some 14) (.pointer (some ⟨h2, 0, none⟩))).put (some 50) (.agg #[.bool p0.s, .slice p0.A p0.n p0.c, .slice p0.B p0.m p0.d, .bool q0.s, .slice q0.A q0.n q0.c, .slice q0.B q0.m q0.d])).put (some 53) (.agg #[.bool p1.s, .slice p1.A p1.n p1.c, .slice p1.B p1.m p1.d, .bool q1.s, .slice q1.A q1.n q1.c, .slice q1.B q1.m q1.d])) ∧ S6 w' h0 (.bool false) (.slice none 0 0) (.slice none 0 0) (.bool false) (.slice none 0 0) (.slice none 0 0) ∧ w.heap.size ≤ h0 ∧ w.heap.size ≠ h0 ∧ w.heap.size + 1 ≠ h0 ∧ w8.heap.size ≠ h0 ∧ w10.heap.size ≠ h0 ∧ S6 w' h1 (.bool false) (.slice none 0 0) (.slice none 0 0) (.bool false) (.slice none 0 0) (.slice none 0 0) ∧ w.heap.size ≤ h1 ∧ w.heap.size ≠ h1 ∧ w.heap.size + 1 ≠ h1 ∧ w8.heap.size ≠ h1 ∧ w10.heap.size ≠ h1 ∧ h0 ≠ h1 ∧ S6 w' h2 (.bool false) (.slice none 0 0) (.slice none 0 0) (.bool false) (.slice none 0 0) (.slice none 0 0) ∧ w.heap.size ≤ h2 ∧ w.heap.size ≠ h2 ∧ w.heap.size + 1 ≠ h2 ∧ w8.heap.size ≠ h2 ∧ w10.heap.size ≠ h2 ∧ h0 ≠ h2 ∧ h1 ≠ h2 ∧ Cu w' p0 S1 ∧ Cu w' q0 S2 ∧ Cu w' p1 zA1 ∧ Cu w' q1 zB1 | (true, true, true, 3) => ∃ (h0 : Nat) (h1 : Nat) (h2 : Nat) (p0 q0 : Rv) (p1 q1 : Rv) (p2 q2 : Rv), a' = ((((((a0.put (some 12) (.pointer (some ⟨h0, 0, none⟩))).put (some 13) (.pointer (some ⟨h1, 0, none⟩))).put (some 14) (.pointer (some ⟨h2, 0, none⟩))).put (some 50) (.agg #[.bool p0.s, .slice p0.A p0.n p0.c, .slice p0.B p0.m p0.d, .bool q0.s, .slice q0.A q0.n q0.c, .slice q0.B q0.m q0.d])).put (some 53) (.agg #[.bool p1.s, .slice p1.A p1.n p1.c, .slice p1.B p1.m p1.d, .bool q1.s, .slice q1.A q1.n q1.c, .slice q1.B q1.m q1.d])).put (some 55) (.agg #[.bool p2.s, .slice p2.A p2.n p2.c, .slice p2.B p2.m p2.d, .bool q2.s, .slice q2.A q2.n q2.c, .slice q2.B q2.m q2.d])) ∧ S6 w' h0 (.bool false) (.slice none 0 0) (.slice none 0 0) (.bool false) (.slice none 0 0) (.slice none 0 0) ∧ w.heap.size ≤ h0 ∧ w.heap.size ≠ h0 ∧ w.heap.size + 1 ≠ h0 ∧ w8.heap.size ≠ h0 ∧ w10.heap.size ≠ h0 ∧ S6 w' h1 (.bool false) (.slice none 0 0) (.slice none 0 0) (.bool false) (.slice none 0 0) (.slice none 0 0) ∧ w.heap.size ≤ h1 ∧ w.heap.size ≠ h1 ∧ w.heap.size + 1 ≠ h1 ∧ w8.heap.size ≠ h1 ∧ w10.heap.size ≠ h1 ∧ h0 ≠ h1 ∧ S6 w' h2 (.bool false) (.slice none 0 0) (.slice none 0 0) (.bool false) (.slice none 0 0) (.slice none 0 0) ∧ w.heap.size ≤ h2 ∧ w.heap.size ≠ h2 ∧ w.heap.size + 1 ≠ h2 ∧ w8.heap.size ≠ h2 ∧ w10.heap.size ≠ h2 ∧ h0 ≠ h2 ∧ h1 ≠ h2 ∧ Cu w' p0 S1 ∧ Cu w' q0 S2 ∧ Cu w' p1 zA1 ∧ Cu w' q1 zB1 ∧ Cu w' p2 R1 ∧ Cu w' q2 R2 | _ => False) (false, false, false, 0) (by kernel_rfl) (by kernel_rfl) ⟨⟨ba_12, bb_12, bl_12, bt_12, ku_12, kv_12, kx_12, ky_12, f1_12, f2_12, t1_12, t2_12, F12⟩, rfl⟩ (fun s ih a' w' hI => ?_)
    obtain ⟨t0, t1, t2, c⟩ := s
    rcases t0 with _ | _
    · rcases t1 with _ | _
      · rcases t2 with _ | _
        · rcases c with _ | _ | _ | _ | c
          · obtain ⟨⟨B0, B1, B2, B3, B4, B5, B6, B7, B8, B9, B10, B11, B12⟩, rfl⟩ := hI
            change wpAnyH _ _ _ _ _ (8 + 1) #[true, true, false, true, true, false, true, false, false, false, false, false, false, false] _ _
            try simp only [Act.put, List.getElem_toArray, List.getElem_cons_succ, List.getElem_cons_zero, List.setIfInBounds_toArray, List.set_cons_zero, List.set_cons_succ]
            refine wpAnyH_ready (rs := [2, 8, 9, 10]) (by kernel_rfl) (by simp) ?_
            refine AllReadyH.cons rfl (fun K hK => ?_) ?_
            · go_simp
              go_at_call 19
              with_reducible refine (iadd_e _ _ _ _ p q p' q' S1 S2 _ HS1.out HS2.out B4 B5 B6 B7 HP.out.1 HP.out.2 sp sq sp' sq').mono ?_
              rintro e x9 ⟨p0, q0, rfl, C0, D0, b9⟩
              try dsimp only
              refine hK.out _ _ ?_ (fun hHeld => ?_)
              · (try dsimp only); exact ⟨(B0.below b9 B0.lt).cell0, (B0.below b9 B0.lt).cell1, (B0.below b9 B0.lt).cell2, (B0.below b9 B0.lt).cell3, (B0.below b9 B0.lt).cell4, (B0.below b9 B0.lt).cell5, (B1.below b9 B1.lt).cell0, (B1.below b9 B1.lt).cell1, (B1.below b9 B1.lt).cell2, (B1.below b9 B1.lt).cell3, (B1.below b9 B1.lt).cell4, (B1.below b9 B1.lt).cell5⟩
              · exact ih (false, false, false, 1) (by decide) _ _ ⟨⟨B0.below b9 B0.lt, B1.below b9 B1.lt, B2.below b9 B2.lt, B3.below b9 B3.lt, B4.below b9, B5.below b9, B6.below b9, B7.below b9, B8.below b9, B9.below b9, B10.below b9, B11.below b9, below_then B12 (Nat.le_refl _) b9⟩, p0, q0, rfl, C0, D0⟩
            refine AllReadyH.cons rfl (fun K hK => ?_) ?_
            · go_simp
              refine hK.out _ _ ?_ (fun hHeld => ?_)
              · (try dsimp only); exact ⟨(B0.alloc EV0).cell0, (B0.alloc EV0).cell1, (B0.alloc EV0).cell2, (B0.alloc EV0).cell3, (B0.alloc EV0).cell4, (B0.alloc EV0).cell5, (B1.alloc EV0).cell0, (B1.alloc EV0).cell1, (B1.alloc EV0).cell2, (B1.alloc EV0).cell3, (B1.alloc EV0).cell4, (B1.alloc EV0).cell5⟩
              · exact ih (true, false, false, 0) (by decide) _ _ ⟨⟨B0.alloc EV0, B1.alloc EV0, B2.alloc EV0, B3.alloc EV0, B4.alloc EV0, B5.alloc EV0, B6.alloc EV0, B7.alloc EV0, B8.alloc EV0, B9.alloc EV0, B10.alloc EV0, B11.alloc EV0, B12.alloc B12.size EV0⟩, _, rfl, S6.new w' (.bool false) (.slice none 0 0) (.slice none 0 0) (.bool false) (.slice none 0 0) (.slice none 0 0), B12.size, Nat.ne_of_lt B0.lt, Nat.ne_of_lt B1.lt, Nat.ne_of_lt B2.lt, Nat.ne_of_lt B3.lt⟩
            refine AllReadyH.cons rfl (fun K hK => ?_) ?_
            · go_simp
              refine hK.out _ _ ?_ (fun hHeld => ?_)
              · (try dsimp only); exact ⟨(B0.alloc EV0).cell0, (B0.alloc EV0).cell1, (B0.alloc EV0).cell2, (B0.alloc EV0).cell3, (B0.alloc EV0).cell4, (B0.alloc EV0).cell5, (B1.alloc EV0).cell0, (B1.alloc EV0).cell1, (B1.alloc EV0).cell2, (B1.alloc EV0).cell3, (B1.alloc EV0).cell4, (B1.alloc EV0).cell5⟩
              · exact ih (false, true, false, 0) (by decide) _ _ ⟨⟨B0.alloc EV0, B1.alloc EV0, B2.alloc EV0, B3.alloc EV0, B4.alloc EV0, B5.alloc EV0, B6.alloc EV0, B7.alloc EV0, B8.alloc EV0, B9.alloc EV0, B10.alloc EV0, B11.alloc EV0, B12.alloc B12.size EV0⟩, _, rfl, S6.new w' (.bool false) (.slice none 0 0) (.slice none 0 0) (.bool false) (.slice none 0 0) (.slice none 0 0), B12.size, Nat.ne_of_lt B0.lt, Nat.ne_of_lt B1.lt, Nat.ne_of_lt B2.lt, Nat.ne_of_lt B3.lt⟩
            refine AllReadyH.cons rfl (fun K hK => ?_) ?_
            · go_simp
              refine hK.out _ _ ?_ (fun hHeld => ?_)
              · (try dsimp only); exact ⟨(B0.alloc EV0).cell0, (B0.alloc EV0).cell1, (B0.alloc EV0).cell2, (B0.alloc EV0).cell3, (B0.alloc EV0).cell4, (B0.alloc EV0).cell5, (B1.alloc EV0).cell0, (B1.alloc EV0).cell1, (B1.alloc EV0).cell2, (B1.alloc EV0).cell3, (B1.alloc EV0).cell4, (B1.alloc EV0).cell5⟩
              · exact ih (false, false, true, 0) (by decide) _ _ ⟨⟨B0.alloc EV0, B1.alloc EV0, B2.alloc EV0, B3.alloc EV0, B4.alloc EV0, B5.alloc EV0, B6.alloc EV0, B7.alloc EV0, B8.alloc EV0, B9.alloc EV0, B10.alloc EV0, B11.alloc EV0, B12.alloc B12.size EV0⟩, _, rfl, S6.new w' (.bool false) (.slice none 0 0) (.slice none 0 0) (.bool false) (.slice none 0 0) (.slice none 0 0), B12.size, Nat.ne_of_lt B0.lt, Nat.ne_of_lt B1.lt, Nat.ne_of_lt B2.lt, Nat.ne_of_lt B3.lt⟩
            exact AllReadyH.nil
          · obtain ⟨⟨B0, B1, B2, B3, B4, B5, B6, B7, B8, B9, B10, B11, B12⟩, p0, q0, rfl, C0, D0⟩ := hI
            change wpAnyH _ _ _ _ _ (7 + 1) #[true, true, true, true, true, false, true, false, false, false, false, false, false, false] _ _
            try simp only [Act.put, List.getElem_toArray, List.getElem_cons_succ, List.getElem_cons_zero, List.setIfInBounds_toArray, List.set_cons_zero, List.set_cons_succ]
            refine wpAnyH_ready (rs := [5, 8, 9, 10]) (by kernel_rfl) (by simp) ?_
            refine AllReadyH.cons rfl (fun K hK => ?_) ?_
            · go_simp
              go_at_call 29
              with_reducible refine (imul_e _ _ _ _ p q p' q' zA1 zB1 _ HA1.out HB1.out B4 B5 B6 B7 HP.out.1 HP.out.2 sp sq sp' sq').mono ?_
              rintro e x9 ⟨p1, q1, rfl, C1, D1, b9⟩
              try dsimp only
              refine hK.out _ _ ?_ (fun hHeld => ?_)
              · (try dsimp only); exact ⟨(B0.below b9 B0.lt).cell0, (B0.below b9 B0.lt).cell1, (B0.below b9 B0.lt).cell2, (B0.below b9 B0.lt).cell3, (B0.below b9 B0.lt).cell4, (B0.below b9 B0.lt).cell5, (B1.below b9 B1.lt).cell0, (B1.below b9 B1.lt).cell1, (B1.below b9 B1.lt).cell2, (B1.below b9 B1.lt).cell3, (B1.below b9 B1.lt).cell4, (B1.below b9 B1.lt).cell5⟩
              · exact ih (false, false, false, 2) (by decide) _ _ ⟨⟨B0.below b9 B0.lt, B1.below b9 B1.lt, B2.below b9 B2.lt, B3.below b9 B3.lt, B4.below b9, B5.below b9, B6.below b9, B7.below b9, B8.below b9, B9.below b9, B10.below b9, B11.below b9, below_then B12 (Nat.le_refl _) b9⟩, p0, q0, p1, q1, rfl, C0.below b9, D0.below b9, C1, D1⟩
            refine AllReadyH.cons rfl (fun K hK => ?_) ?_
            · go_simp
              refine hK.out _ _ ?_ (fun hHeld => ?_)
              · (try dsimp only); exact ⟨(B0.alloc EV0).cell0, (B0.alloc EV0).cell1, (B0.alloc EV0).cell2, (B0.alloc EV0).cell3, (B0.alloc EV0).cell4, (B0.alloc EV0).cell5, (B1.alloc EV0).cell0, (B1.alloc EV0).cell1, (B1.alloc EV0).cell2, (B1.alloc EV0).cell3, (B1.alloc EV0).cell4, (B1.alloc EV0).cell5⟩
              · exact ih (true, false, false, 1) (by decide) _ _ ⟨⟨B0.alloc EV0, B1.alloc EV0, B2.alloc EV0, B3.alloc EV0, B4.alloc EV0, B5.alloc EV0, B6.alloc EV0, B7.alloc EV0, B8.alloc EV0, B9.alloc EV0, B10.alloc EV0, B11.alloc EV0, B12.alloc B12.size EV0⟩, _, p0, q0, rfl, S6.new w' (.bool false) (.slice none 0 0) (.slice none 0 0) (.bool false) (.slice none 0 0) (.slice none 0 0), B12.size, Nat.ne_of_lt B0.lt, Nat.ne_of_lt B1.lt, Nat.ne_of_lt B2.lt, Nat.ne_of_lt B3.lt, C0.alloc EV0, D0.alloc EV0⟩
            refine AllReadyH.cons rfl (fun K hK => ?_) ?_
            · go_simp
              refine hK.out _ _ ?_ (fun hHeld => ?_)
              · (try dsimp only); exact ⟨(B0.alloc EV0).cell0, (B0.alloc EV0).cell1, (B0.alloc EV0).cell2, (B0.alloc EV0).cell3, (B0.alloc EV0).cell4, (B0.alloc EV0).cell5, (B1.alloc EV0).cell0, (B1.alloc EV0).cell1, (B1.alloc EV0).cell2, (B1.alloc EV0).cell3, (B1.alloc EV0).cell4, (B1.alloc EV0).cell5⟩
              · exact ih (false, true, false, 1) (by decide) _ _ ⟨⟨B0.alloc EV0, B1.alloc EV0, B2.alloc EV0, B3.alloc EV0, B4.alloc EV0, B5.alloc EV0, B6.alloc EV0, B7.alloc EV0, B8.alloc EV0, B9.alloc EV0, B10.alloc EV0, B11.alloc EV0, B12.alloc B12.size EV0⟩, _, p0, q0, rfl, S6.new w' (.bool false) (.slice none 0 0) (.slice none 0 0) (.bool false) (.slice none 0 0) (.slice none 0 0), B12.size, Nat.ne_of_lt B0.lt, Nat.ne_of_lt B1.lt, Nat.ne_of_lt B2.lt, Nat.ne_of_lt B3.lt, C0.alloc EV0, D0.alloc EV0⟩
            refine AllReadyH.cons rfl (fun K hK => ?_) ?_
            · go_simp
              refine hK.out _ _ ?_ (fun hHeld => ?_)
              · (try dsimp only); exact ⟨(B0.alloc EV0).cell0, (B0.alloc EV0).cell1, (B0.alloc EV0).cell2, (B0.alloc EV0).cell3, (B0.alloc EV0).cell4, (B0.alloc EV0).cell5, (B1.alloc EV0).cell0, (B1.alloc EV0).cell1, (B1.alloc EV0).cell2, (B1.alloc EV0).cell3, (B1.alloc EV0).cell4, (B1.alloc EV0).cell5⟩
              · exact ih (false, false, true, 1) (by decide) _ _ ⟨⟨B0.alloc EV0, B1.alloc EV0, B2.alloc EV0, B3.alloc EV0, B4.alloc EV0, B5.alloc EV0, B6.alloc EV0, B7.alloc EV0, B8.alloc EV0, B9.alloc EV0, B10.alloc EV0, B11.alloc EV0, B12.alloc B12.size EV0⟩, _, p0, q0, rfl, S6.new w' (.bool false) (.slice none 0 0) (.slice none 0 0) (.bool false) (.slice none 0 0) (.slice none 0 0), B12.size, Nat.ne_of_lt B0.lt, Nat.ne_of_lt B1.lt, Nat.ne_of_lt B2.lt, Nat.ne_of_lt B3.lt, C0.alloc EV0, D0.alloc EV0⟩
            exact AllReadyH.nil
          · obtain ⟨⟨B0, B1, B2, B3, B4, B5, B6, B7, B8, B9, B10, B11, B12⟩, p0, q0, p1, q1, rfl, C0, D0, C1, D1⟩ := hI
            change wpAnyH _ _ _ _ _ (6 + 1) #[true, true, true, true, true, true, true, false, false, false, false, false, false, false] _ _
            try simp only [Act.put, List.getElem_toArray, List.getElem_cons_succ, List.getElem_cons_zero, List.setIfInBounds_toArray, List.set_cons_zero, List.set_cons_succ]
            refine wpAnyH_ready (rs := [7, 8, 9, 10]) (by kernel_rfl) (by simp) ?_
            refine AllReadyH.cons rfl (fun K hK => ?_) ?_
            · go_simp
              go_at_call 30
              with_reducible refine (irelu_e _ _ p q R1 R2 _ HR1.out HR2.out B4 B5 HP.out.1 sp sq).mono ?_
              rintro e x9 ⟨p2, q2, rfl, C2, D2, b9⟩
              try dsimp only
              refine hK.out _ _ ?_ (fun hHeld => ?_)
              · (try dsimp only); exact ⟨(B0.below b9 B0.lt).cell0, (B0.below b9 B0.lt).cell1, (B0.below b9 B0.lt).cell2, (B0.below b9 B0.lt).cell3, (B0.below b9 B0.lt).cell4, (B0.below b9 B0.lt).cell5, (B1.below b9 B1.lt).cell0, (B1.below b9 B1.lt).cell1, (B1.below b9 B1.lt).cell2, (B1.below b9 B1.lt).cell3, (B1.below b9 B1.lt).cell4, (B1.below b9 B1.lt).cell5⟩
              · exact ih (false, false, false, 3) (by decide) _ _ ⟨⟨B0.below b9 B0.lt, B1.below b9 B1.lt, B2.below b9 B2.lt, B3.below b9 B3.lt, B4.below b9, B5.below b9, B6.below b9, B7.below b9, B8.below b9, B9.below b9, B10.below b9, B11.below b9, below_then B12 (Nat.le_refl _) b9⟩, p0, q0, p1, q1, p2, q2, rfl, C0.below b9, D0.below b9, C1.below b9, D1.below b9, C2, D2⟩
            refine AllReadyH.cons rfl (fun K hK => ?_) ?_
            · go_simp
              refine hK.out _ _ ?_ (fun hHeld => ?_)
              · (try dsimp only); exact ⟨(B0.alloc EV0).cell0, (B0.alloc EV0).cell1, (B0.alloc EV0).cell2, (B0.alloc EV0).cell3, (B0.alloc EV0).cell4, (B0.alloc EV0).cell5, (B1.alloc EV0).cell0, (B1.alloc EV0).cell1, (B1.alloc EV0).cell2, (B1.alloc EV0).cell3, (B1.alloc EV0).cell4, (B1.alloc EV0).cell5⟩
              · exact ih (true, false, false, 2) (by decide) _ _ ⟨⟨B0.alloc EV0, B1.alloc EV0, B2.alloc EV0, B3.alloc EV0, B4.alloc EV0, B5.alloc EV0, B6.alloc EV0, B7.alloc EV0, B8.alloc EV0, B9.alloc EV0, B10.alloc EV0, B11.alloc EV0, B12.alloc B12.size EV0⟩, _, p0, q0, p1, q1, rfl, S6.new w' (.bool false) (.slice none 0 0) (.slice none 0 0) (.bool false) (.slice none 0 0) (.slice none 0 0), B12.size, Nat.ne_of_lt B0.lt, Nat.ne_of_lt B1.lt, Nat.ne_of_lt B2.lt, Nat.ne_of_lt B3.lt, C0.alloc EV0, D0.alloc EV0, C1.alloc EV0, D1.alloc EV0⟩
            refine AllReadyH.cons rfl (fun K hK => ?_) ?_
            · go_simp
              refine hK.out _ _ ?_ (fun hHeld => ?_)
              · (try dsimp only); exact ⟨(B0.alloc EV0).cell0, (B0.alloc EV0).cell1, (B0.alloc EV0).cell2, (B0.alloc EV0).cell3, (B0.alloc EV0).cell4, (B0.alloc EV0).cell5, (B1.alloc EV0).cell0, (B1.alloc EV0).cell1, (B1.alloc EV0).cell2, (B1.alloc EV0).cell3, (B1.alloc EV0).cell4, (B1.alloc EV0).cell5⟩
              · exact ih (false, true, false, 2) (by decide) _ _ ⟨⟨B0.alloc EV0, B1.alloc EV0, B2.alloc EV0, B3.alloc EV0, B4.alloc EV0, B5.alloc EV0, B6.alloc EV0, B7.alloc EV0, B8.alloc EV0, B9.alloc EV0, B10.alloc EV0, B11.alloc EV0, B12.alloc B12.size EV0⟩, _, p0, q0, p1, q1, rfl, S6.new w' (.bool false) (.slice none 0 0) (.slice none 0 0) (.bool false) (.slice none 0 0) (.slice none 0 0), B12.size, Nat.ne_of_lt B0.lt, Nat.ne_of_lt B1.lt, Nat.ne_of_lt B2.lt, Nat.ne_of_lt B3.lt, C0.alloc EV0, D0.alloc EV0, C1.alloc EV0, D1.alloc EV0⟩
            refine AllReadyH.cons rfl (fun K hK => ?_) ?_
            · go_simp
              refine hK.out _ _ ?_ (fun hHeld => ?_)
              · (try dsimp only); exact ⟨(B0.alloc EV0).cell0, (B0.alloc EV0).cell1, (B0.alloc EV0).cell2, (B0.alloc EV0).cell3, (B0.alloc EV0).cell4, (B0.alloc EV0).cell5, (B1.alloc EV0).cell0, (B1.alloc EV0).cell1, (B1.alloc EV0).cell2, (B1.alloc EV0).cell3, (B1.alloc EV0).cell4, (B1.alloc EV0).cell5⟩
              · exact ih (false, false, true, 2) (by decide) _ _ ⟨⟨B0.alloc EV0, B1.alloc EV0, B2.alloc EV0, B3.alloc EV0, B4.alloc EV0, B5.alloc EV0, B6.alloc EV0, B7.alloc EV0, B8.alloc EV0, B9.alloc EV0, B10.alloc EV0, B11.alloc EV0, B12.alloc B12.size EV0⟩, _, p0, q0, p1, q1, rfl, S6.new w' (.bool false) (.slice none 0 0) (.slice none 0 0) (.bool false) (.slice none 0 0) (.slice none 0 0), B12.size, Nat.ne_of_lt B0.lt, Nat.ne_of_lt B1.lt, Nat.ne_of_lt B2.lt, Nat.ne_of_lt B3.lt, C0.alloc EV0, D0.alloc EV0, C1.alloc EV0, D1.alloc EV0⟩
            exact AllReadyH.nil
          · obtain ⟨⟨B0, B1, B2, B3, B4, B5, B6, B7, B8, B9, B10, B11, B12⟩, p0, q0, p1, q1, p2, q2, rfl, C0, D0, C1, D1, C2, D2⟩ := hI
            change wpAnyH _ _ _ _ _ (5 + 1) #[true, true, true, true, true, true, true, true, false, false, false, false, false, false] _ _
            try simp only [Act.put, List.getElem_toArray, List.getElem_cons_succ, List.getElem_cons_zero, List.setIfInBounds_toArray, List.set_cons_zero, List.set_cons_succ]
            refine wpAnyH_ready (rs := [8, 9, 10]) (by kernel_rfl) (by simp) ?_
            refine AllReadyH.cons rfl (fun K hK => ?_) ?_
            · go_simp
              refine hK.out _ _ ?_ (fun hHeld => ?_)
              · (try dsimp only); exact ⟨(B0.alloc EV0).cell0, (B0.alloc EV0).cell1, (B0.alloc EV0).cell2, (B0.alloc EV0).cell3, (B0.alloc EV0).cell4, (B0.alloc EV0).cell5, (B1.alloc EV0).cell0, (B1.alloc EV0).cell1, (B1.alloc EV0).cell2, (B1.alloc EV0).cell3, (B1.alloc EV0).cell4, (B1.alloc EV0).cell5⟩
              · exact ih (true, false, false, 3) (by decide) _ _ ⟨⟨B0.alloc EV0, B1.alloc EV0, B2.alloc EV0, B3.alloc EV0, B4.alloc EV0, B5.alloc EV0, B6.alloc EV0, B7.alloc EV0, B8.alloc EV0, B9.alloc EV0, B10.alloc EV0, B11.alloc EV0, B12.alloc B12.size EV0⟩, _, p0, q0, p1, q1, p2, q2, rfl, S6.new w' (.bool false) (.slice none 0 0) (.slice none 0 0) (.bool false) (.slice none 0 0) (.slice none 0 0), B12.size, Nat.ne_of_lt B0.lt, Nat.ne_of_lt B1.lt, Nat.ne_of_lt B2.lt, Nat.ne_of_lt B3.lt, C0.alloc EV0, D0.alloc EV0, C1.alloc EV0, D1.alloc EV0, C2.alloc EV0, D2.alloc EV0⟩
            refine AllReadyH.cons rfl (fun K hK => ?_) ?_
            · go_simp
              refine hK.out _ _ ?_ (fun hHeld => ?_)
              · (try dsimp only); exact ⟨(B0.alloc EV0).cell0, (B0.alloc EV0).cell1, (B0.alloc EV0).cell2, (B0.alloc EV0).cell3, (B0.alloc EV0).cell4, (B0.alloc EV0).cell5, (B1.alloc EV0).cell0, (B1.alloc EV0).cell1, (B1.alloc EV0).cell2, (B1.alloc EV0).cell3, (B1.alloc EV0).cell4, (B1.alloc EV0).cell5⟩
              · exact ih (false, true, false, 3) (by decide) _ _ ⟨⟨B0.alloc EV0, B1.alloc EV0, B2.alloc EV0, B3.alloc EV0, B4.alloc EV0, B5.alloc EV0, B6.alloc EV0, B7.alloc EV0, B8.alloc EV0, B9.alloc EV0, B10.alloc EV0, B11.alloc EV0, B12.alloc B12.size EV0⟩, _, p0, q0, p1, q1, p2, q2, rfl, S6.new w' (.bool false) (.slice none 0 0) (.slice none 0 0) (.bool false) (.slice none 0 0) (.slice none 0 0), B12.size, Nat.ne_of_lt B0.lt, Nat.ne_of_lt B1.lt, Nat.ne_of_lt B2.lt, Nat.ne_of_lt B3.lt, C0.alloc EV0, D0.alloc EV0, C1.alloc EV0, D1.alloc EV0, C2.alloc EV0, D2.alloc EV0⟩
            refine AllReadyH.cons rfl (fun K hK => ?_) ?_
            · go_simp
              refine hK.out _ _ ?_ (fun hHeld => ?_)
              · (try dsimp only); exact ⟨(B0.alloc EV0).cell0, (B0.alloc EV0).cell1, (B0.alloc EV0).cell2, (B0.alloc EV0).cell3, (B0.alloc EV0).cell4, (B0.alloc EV0).cell5, (B1.alloc EV0).cell0, (B1.alloc EV0).cell1, (B1.alloc EV0).cell2, (B1.alloc EV0).cell3, (B1.alloc EV0).cell4, (B1.alloc EV0).cell5⟩
              · exact ih (false, false, true, 3) (by decide) _ _ ⟨⟨B0.alloc EV0, B1.alloc EV0, B2.alloc EV0, B3.alloc EV0, B4.alloc EV0, B5.alloc EV0, B6.alloc EV0, B7.alloc EV0, B8.alloc EV0, B9.alloc EV0, B10.alloc EV0, B11.alloc EV0, B12.alloc B12.size EV0⟩, _, p0, q0, p1, q1, p2, q2, rfl, S6.new w' (.bool false) (.slice none 0 0) (.slice none 0 0) (.bool false) (.slice none 0 0) (.slice none 0 0), B12.size, Nat.ne_of_lt B0.lt, Nat.ne_of_lt B1.lt, Nat.ne_of_lt B2.lt, Nat.ne_of_lt B3.lt, C0.alloc EV0, D0.alloc EV0, C1.alloc EV0, D1.alloc EV0, C2.alloc EV0, D2.alloc EV0⟩
            exact AllReadyH.nil
          · exact hI.2.elim
        · rcases c with _ | _ | _ | _ | c
          · obtain ⟨⟨B0, B1, B2, B3, B4, B5, B6, B7, B8, B9, B10, B11, B12⟩, h2, rfl, Z2, G2, N2_0, N2_1, N2_2, N2_3⟩ := hI
            change wpAnyH _ _ _ _ _ (7 + 1) #[true, true, false, true, true, false, true, false, false, false, true, false, false, false] _ _
            try simp only [Act.put, List.getElem_toArray, List.getElem_cons_succ, List.getElem_cons_zero, List.setIfInBounds_toArray, List.set_cons_zero, List.set_cons_succ]
            refine wpAnyH_ready (rs := [2, 8, 9]) (by kernel_rfl) (by simp) ?_
            refine AllReadyH.cons rfl (fun K hK => ?_) ?_
            · go_simp
              go_at_call 19
              with_reducible refine (iadd_e _ _ _ _ p q p' q' S1 S2 _ HS1.out HS2.out B4 B5 B6 B7 HP.out.1 HP.out.2 sp sq sp' sq').mono ?_
              rintro e x9 ⟨p0, q0, rfl, C0, D0, b9⟩
              try dsimp only
              refine hK.out _ _ ?_ (fun hHeld => ?_)
              · (try dsimp only); exact ⟨(B0.below b9 B0.lt).cell0, (B0.below b9 B0.lt).cell1, (B0.below b9 B0.lt).cell2, (B0.below b9 B0.lt).cell3, (B0.below b9 B0.lt).cell4, (B0.below b9 B0.lt).cell5, (B1.below b9 B1.lt).cell0, (B1.below b9 B1.lt).cell1, (B1.below b9 B1.lt).cell2, (B1.below b9 B1.lt).cell3, (B1.below b9 B1.lt).cell4, (B1.below b9 B1.lt).cell5⟩
              · exact ih (false, false, true, 1) (by decide) _ _ ⟨⟨B0.below b9 B0.lt, B1.below b9 B1.lt, B2.below b9 B2.lt, B3.below b9 B3.lt, B4.below b9, B5.below b9, B6.below b9, B7.below b9, B8.below b9, B9.below b9, B10.below b9, B11.below b9, below_then B12 (Nat.le_refl _) b9⟩, h2, p0, q0, rfl, Z2.below b9 Z2.lt, G2, N2_0, N2_1, N2_2, N2_3, C0, D0⟩
            refine AllReadyH.cons rfl (fun K hK => ?_) ?_
            · go_simp
              refine hK.out _ _ ?_ (fun hHeld => ?_)
              · (try dsimp only); exact ⟨(B0.alloc EV0).cell0, (B0.alloc EV0).cell1, (B0.alloc EV0).cell2, (B0.alloc EV0).cell3, (B0.alloc EV0).cell4, (B0.alloc EV0).cell5, (B1.alloc EV0).cell0, (B1.alloc EV0).cell1, (B1.alloc EV0).cell2, (B1.alloc EV0).cell3, (B1.alloc EV0).cell4, (B1.alloc EV0).cell5⟩
              · exact ih (true, false, true, 0) (by decide) _ _ ⟨⟨B0.alloc EV0, B1.alloc EV0, B2.alloc EV0, B3.alloc EV0, B4.alloc EV0, B5.alloc EV0, B6.alloc EV0, B7.alloc EV0, B8.alloc EV0, B9.alloc EV0, B10.alloc EV0, B11.alloc EV0, B12.alloc B12.size EV0⟩, _, h2, rfl, S6.new w' (.bool false) (.slice none 0 0) (.slice none 0 0) (.bool false) (.slice none 0 0) (.slice none 0 0), B12.size, Nat.ne_of_lt B0.lt, Nat.ne_of_lt B1.lt, Nat.ne_of_lt B2.lt, Nat.ne_of_lt B3.lt, Z2.alloc EV0, G2, N2_0, N2_1, N2_2, N2_3, Nat.ne_of_gt Z2.lt⟩
            refine AllReadyH.cons rfl (fun K hK => ?_) ?_
            · go_simp
              refine hK.out _ _ ?_ (fun hHeld => ?_)
              · (try dsimp only); exact ⟨(B0.alloc EV0).cell0, (B0.alloc EV0).cell1, (B0.alloc EV0).cell2, (B0.alloc EV0).cell3, (B0.alloc EV0).cell4, (B0.alloc EV0).cell5, (B1.alloc EV0).cell0, (B1.alloc EV0).cell1, (B1.alloc EV0).cell2, (B1.alloc EV0).cell3, (B1.alloc EV0).cell4, (B1.alloc EV0).cell5⟩
              · exact ih (false, true, true, 0) (by decide) _ _ ⟨⟨B0.alloc EV0, B1.alloc EV0, B2.alloc EV0, B3.alloc EV0, B4.alloc EV0, B5.alloc EV0, B6.alloc EV0, B7.alloc EV0, B8.alloc EV0, B9.alloc EV0, B10.alloc EV0, B11.alloc EV0, B12.alloc B12.size EV0⟩, _, h2, rfl, S6.new w' (.bool false) (.slice none 0 0) (.slice none 0 0) (.bool false) (.slice none 0 0) (.slice none 0 0), B12.size, Nat.ne_of_lt B0.lt, Nat.ne_of_lt B1.lt, Nat.ne_of_lt B2.lt, Nat.ne_of_lt B3.lt, Z2.alloc EV0, G2, N2_0, N2_1, N2_2, N2_3, Nat.ne_of_gt Z2.lt⟩
            exact AllReadyH.nil
          · obtain ⟨⟨B0, B1, B2, B3, B4, B5, B6, B7, B8, B9, B10, B11, B12⟩, h2, p0, q0, rfl, Z2, G2, N2_0, N2_1, N2_2, N2_3, C0, D0⟩ := hI
            change wpAnyH _ _ _ _ _ (6 + 1) #[true, true, true, true, true, false, true, false, false, false, true, false, false, false] _ _
            try simp only [Act.put, List.getElem_toArray, List.getElem_cons_succ, List.getElem_cons_zero, List.setIfInBounds_toArray, List.set_cons_zero, List.set_cons_succ]
            refine wpAnyH_ready (rs := [5, 8, 9]) (by kernel_rfl) (by simp) ?_
            refine AllReadyH.cons rfl (fun K hK => ?_) ?_
            · go_simp
              go_at_call 29
              with_reducible refine (imul_e _ _ _ _ p q p' q' zA1 zB1 _ HA1.out HB1.out B4 B5 B6 B7 HP.out.1 HP.out.2 sp sq sp' sq').mono ?_
              rintro e x9 ⟨p1, q1, rfl, C1, D1, b9⟩
              try dsimp only
              refine hK.out _ _ ?_ (fun hHeld => ?_)
              · (try dsimp only); exact ⟨(B0.below b9 B0.lt).cell0, (B0.below b9 B0.lt).cell1, (B0.below b9 B0.lt).cell2, (B0.below b9 B0.lt).cell3, (B0.below b9 B0.lt).cell4, (B0.below b9 B0.lt).cell5, (B1.below b9 B1.lt).cell0, (B1.below b9 B1.lt).cell1, (B1.below b9 B1.lt).cell2, (B1.below b9 B1.lt).cell3, (B1.below b9 B1.lt).cell4, (B1.below b9 B1.lt).cell5⟩
              · exact ih (false, false, true, 2) (by decide) _ _ ⟨⟨B0.below b9 B0.lt, B1.below b9 B1.lt, B2.below b9 B2.lt, B3.below b9 B3.lt, B4.below b9, B5.below b9, B6.below b9, B7.below b9, B8.below b9, B9.below b9, B10.below b9, B11.below b9, below_then B12 (Nat.le_refl _) b9⟩, h2, p0, q0, p1, q1, rfl, Z2.below b9 Z2.lt, G2, N2_0, N2_1, N2_2, N2_3, C0.below b9, D0.below b9, C1, D1⟩
            refine AllReadyH.cons rfl (fun K hK => ?_) ?_
            · go_simp
              refine hK.out _ _ ?_ (fun hHeld => ?_)
              · (try dsimp only); exact ⟨(B0.alloc EV0).cell0, (B0.alloc EV0).cell1, (B0.alloc EV0).cell2, (B0.alloc EV0).cell3, (B0.alloc EV0).cell4, (B0.alloc EV0).cell5, (B1.alloc EV0).cell0, (B1.alloc EV0).cell1, (B1.alloc EV0).cell2, (B1.alloc EV0).cell3, (B1.alloc EV0).cell4, (B1.alloc EV0).cell5⟩
              · exact ih (true, false, true, 1) (by decide) _ _ ⟨⟨B0.alloc EV0, B1.alloc EV0, B2.alloc EV0, B3.alloc EV0, B4.alloc EV0, B5.alloc EV0, B6.alloc EV0, B7.alloc EV0, B8.alloc EV0, B9.alloc EV0, B10.alloc EV0, B11.alloc EV0, B12.alloc B12.size EV0⟩, _, h2, p0, q0, rfl, S6.new w' (.bool false) (.slice none 0 0) (.slice none 0 0) (.bool false) (.slice none 0 0) (.slice none 0 0), B12.size, Nat.ne_of_lt B0.lt, Nat.ne_of_lt B1.lt, Nat.ne_of_lt B2.lt, Nat.ne_of_lt B3.lt, Z2.alloc EV0, G2, N2_0, N2_1, N2_2, N2_3, Nat.ne_of_gt Z2.lt, C0.alloc EV0, D0.alloc EV0⟩
            refine AllReadyH.cons rfl (fun K hK => ?_) ?_
            · go_simp
              refine hK.out _ _ ?_ (fun hHeld => ?_)
              · (try dsimp only); exact ⟨(B0.alloc EV0).cell0, (B0.alloc EV0).cell1, (B0.alloc EV0).cell2, (B0.alloc EV0).cell3, (B0.alloc EV0).cell4, (B0.alloc EV0).cell5, (B1.alloc EV0).cell0, (B1.alloc EV0).cell1, (B1.alloc EV0).cell2, (B1.alloc EV0).cell3, (B1.alloc EV0).cell4, (B1.alloc EV0).cell5⟩
              · exact ih (false, true, true, 1) (by decide) _ _ ⟨⟨B0.alloc EV0, B1.alloc EV0, B2.alloc EV0, B3.alloc EV0, B4.alloc EV0, B5.alloc EV0, B6.alloc EV0, B7.alloc EV0, B8.alloc EV0, B9.alloc EV0, B10.alloc EV0, B11.alloc EV0, B12.alloc B12.size EV0⟩, _, h2, p0, q0, rfl, S6.new w' (.bool false) (.slice none 0 0) (.slice none 0 0) (.bool false) (.slice none 0 0) (.slice none 0 0), B12.size, Nat.ne_of_lt B0.lt, Nat.ne_of_lt B1.lt, Nat.ne_of_lt B2.lt, Nat.ne_of_lt B3.lt, Z2.alloc EV0, G2, N2_0, N2_1, N2_2, N2_3, Nat.ne_of_gt Z2.lt, C0.alloc EV0, D0.alloc EV0⟩
            exact AllReadyH.nil
          · obtain ⟨⟨B0, B1, B2, B3, B4, B5, B6, B7, B8, B9, B10, B11, B12⟩, h2, p0, q0, p1, q1, rfl, Z2, G2, N2_0, N2_1, N2_2, N2_3, C0, D0, C1, D1⟩ := hI
            change wpAnyH _ _ _ _ _ (5 + 1) #[true, true, true, true, true, true, true, false, false, false, true, false, false, false] _ _
            try simp only [Act.put, List.getElem_toArray, List.getElem_cons_succ, List.getElem_cons_zero, List.setIfInBounds_toArray, List.set_cons_zero, List.set_cons_succ]
            refine wpAnyH_ready (rs := [7, 8, 9]) (by kernel_rfl) (by simp) ?_
            refine AllReadyH.cons rfl (fun K hK => ?_) ?_
            · go_simp
              go_at_call 30
              with_reducible refine (irelu_e _ _ p q R1 R2 _ HR1.out HR2.out B4 B5 HP.out.1 sp sq).mono ?_
              rintro e x9 ⟨p2, q2, rfl, C2, D2, b9⟩
              try dsimp only
              refine hK.out _ _ ?_ (fun hHeld => ?_)
              · (try dsimp only); exact ⟨(B0.below b9 B0.lt).cell0, (B0.below b9 B0.lt).cell1, (B0.below b9 B0.lt).cell2, (B0.below b9 B0.lt).cell3, (B0.below b9 B0.lt).cell4, (B0.below b9 B0.lt).cell5, (B1.below b9 B1.lt).cell0, (B1.below b9 B1.lt).cell1, (B1.below b9 B1.lt).cell2, (B1.below b9 B1.lt).cell3, (B1.below b9 B1.lt).cell4, (B1.below b9 B1.lt).cell5⟩
              · exact ih (false, false, true, 3) (by decide) _ _ ⟨⟨B0.below b9 B0.lt, B1.below b9 B1.lt, B2.below b9 B2.lt, B3.below b9 B3.lt, B4.below b9, B5.below b9, B6.below b9, B7.below b9, B8.below b9, B9.below b9, B10.below b9, B11.below b9, below_then B12 (Nat.le_refl _) b9⟩, h2, p0, q0, p1, q1, p2, q2, rfl, Z2.below b9 Z2.lt, G2, N2_0, N2_1, N2_2, N2_3, C0.below b9, D0.below b9, C1.below b9, D1.below b9, C2, D2⟩
            refine AllReadyH.cons rfl (fun K hK => ?_) ?_
            · go_simp
              refine hK.out _ _ ?_ (fun hHeld => ?_)
              · (try dsimp only); exact ⟨(B0.alloc EV0).cell0, (B0.alloc EV0).cell1, (B0.alloc EV0).cell2, (B0.alloc EV0).cell3, (B0.alloc EV0).cell4, (B0.alloc EV0).cell5, (B1.alloc EV0).cell0, (B1.alloc EV0).cell1, (B1.alloc EV0).cell2, (B1.alloc EV0).cell3, (B1.alloc EV0).cell4, (B1.alloc EV0).cell5⟩
              · exact ih (true, false, true, 2) (by decide) _ _ ⟨⟨B0.alloc EV0, B1.alloc EV0, B2.alloc EV0, B3.alloc EV0, B4.alloc EV0, B5.alloc EV0, B6.alloc EV0, B7.alloc EV0, B8.alloc EV0, B9.alloc EV0, B10.alloc EV0, B11.alloc EV0, B12.alloc B12.size EV0⟩, _, h2, p0, q0, p1, q1, rfl, S6.new w' (.bool false) (.slice none 0 0) (.slice none 0 0) (.bool false) (.slice none 0 0) (.slice none 0 0), B12.size, Nat.ne_of_lt B0.lt, Nat.ne_of_lt B1.lt, Nat.ne_of_lt B2.lt, Nat.ne_of_lt B3.lt, Z2.alloc EV0, G2, N2_0, N2_1, N2_2, N2_3, Nat.ne_of_gt Z2.lt, C0.alloc EV0, D0.alloc EV0, C1.alloc EV0, D1.alloc EV0⟩
            refine AllReadyH.cons rfl (fun K hK => ?_) ?_
            · go_simp
              refine hK.out _ _ ?_ (fun hHeld => ?_)
              · (try dsimp only); exact ⟨(B0.alloc EV0).cell0, (B0.alloc EV0).cell1, (B0.alloc EV0).cell2, (B0.alloc EV0).cell3, (B0.alloc EV0).cell4, (B0.alloc EV0).cell5, (B1.alloc EV0).cell0, (B1.alloc EV0).cell1, (B1.alloc EV0).cell2, (B1.alloc EV0).cell3, (B1.alloc EV0).cell4, (B1.alloc EV0).cell5⟩
              · exact ih (false, true, true, 2) (by decide) _ _ ⟨⟨B0.alloc EV0, B1.alloc EV0, B2.alloc EV0, B3.alloc EV0, B4.alloc EV0, B5.alloc EV0, B6.alloc EV0, B7.alloc EV0, B8.alloc EV0, B9.alloc EV0, B10.alloc EV0, B11.alloc EV0, B12.alloc B12.size EV0⟩, _, h2, p0, q0, p1, q1, rfl, S6.new w' (.bool false) (.slice none 0 0) (.slice none 0 0) (.bool false) (.slice none 0 0) (.slice none 0 0), B12.size, Nat.ne_of_lt B0.lt, Nat.ne_of_lt B1.lt, Nat.ne_of_lt B2.lt, Nat.ne_of_lt B3.lt, Z2.alloc EV0, G2, N2_0, N2_1, N2_2, N2_3, Nat.ne_of_gt Z2.lt, C0.alloc EV0, D0.alloc EV0, C1.alloc EV0, D1.alloc EV0⟩
            exact AllReadyH.nil
          · obtain ⟨⟨B0, B1, B2, B3, B4, B5, B6, B7, B8, B9, B10, B11, B12⟩, h2, p0, q0, p1, q1, p2, q2, rfl, Z2, G2, N2_0, N2_1, N2_2, N2_3, C0, D0, C1, D1, C2, D2⟩ := hI
            change wpAnyH _ _ _ _ _ (4 + 1) #[true, true, true, true, true, true, true, true, false, false, true, false, false, false] _ _
            try simp only [Act.put, List.getElem_toArray, List.getElem_cons_succ, List.getElem_cons_zero, List.setIfInBounds_toArray, List.set_cons_zero, List.set_cons_succ]
            refine wpAnyH_ready (rs := [8, 9]) (by kernel_rfl) (by simp) ?_
            refine AllReadyH.cons rfl (fun K hK => ?_) ?_
            · go_simp
              refine hK.out _ _ ?_ (fun hHeld => ?_)
              · (try dsimp only); exact ⟨(B0.alloc EV0).cell0, (B0.alloc EV0).cell1, (B0.alloc EV0).cell2, (B0.alloc EV0).cell3, (B0.alloc EV0).cell4, (B0.alloc EV0).cell5, (B1.alloc EV0).cell0, (B1.alloc EV0).cell1, (B1.alloc EV0).cell2, (B1.alloc EV0).cell3, (B1.alloc EV0).cell4, (B1.alloc EV0).cell5⟩
              · exact ih (true, false, true, 3) (by decide) _ _ ⟨⟨B0.alloc EV0, B1.alloc EV0, B2.alloc EV0, B3.alloc EV0, B4.alloc EV0, B5.alloc EV0, B6.alloc EV0, B7.alloc EV0, B8.alloc EV0, B9.alloc EV0, B10.alloc EV0, B11.alloc EV0, B12.alloc B12.size EV0⟩, _, h2, p0, q0, p1, q1, p2, q2, rfl, S6.new w' (.bool false) (.slice none 0 0) (.slice none 0 0) (.bool false) (.slice none 0 0) (.slice none 0 0), B12.size, Nat.ne_of_lt B0.lt, Nat.ne_of_lt B1.lt, Nat.ne_of_lt B2.lt, Nat.ne_of_lt B3.lt, Z2.alloc EV0, G2, N2_0, N2_1, N2_2, N2_3, Nat.ne_of_gt Z2.lt, C0.alloc EV0, D0.alloc EV0, C1.alloc EV0, D1.alloc EV0, C2.alloc EV0, D2.alloc EV0⟩
            refine AllReadyH.cons rfl (fun K hK => ?_) ?_
            · go_simp
              refine hK.out _ _ ?_ (fun hHeld => ?_)
              · (try dsimp only); exact ⟨(B0.alloc EV0).cell0, (B0.alloc EV0).cell1, (B0.alloc EV0).cell2, (B0.alloc EV0).cell3, (B0.alloc EV0).cell4, (B0.alloc EV0).cell5, (B1.alloc EV0).cell0, (B1.alloc EV0).cell1, (B1.alloc EV0).cell2, (B1.alloc EV0).cell3, (B1.alloc EV0).cell4, (B1.alloc EV0).cell5⟩
              · exact ih (false, true, true, 3) (by decide) _ _ ⟨⟨B0.alloc EV0, B1.alloc EV0, B2.alloc EV0, B3.alloc EV0, B4.alloc EV0, B5.alloc EV0, B6.alloc EV0, B7.alloc EV0, B8.alloc EV0, B9.alloc EV0, B10.alloc EV0, B11.alloc EV0, B12.alloc B12.size EV0⟩, _, h2, p0, q0, p1, q1, p2, q2, rfl, S6.new w' (.bool false) (.slice none 0 0) (.slice none 0 0) (.bool false) (.slice none 0 0) (.slice none 0 0), B12.size, Nat.ne_of_lt B0.lt, Nat.ne_of_lt B1.lt, Nat.ne_of_lt B2.lt, Nat.ne_of_lt B3.lt, Z2.alloc EV0, G2, N2_0, N2_1, N2_2, N2_3, Nat.ne_of_gt Z2.lt, C0.alloc EV0, D0.alloc EV0, C1.alloc EV0, D1.alloc EV0, C2.alloc EV0, D2.alloc EV0⟩
            exact AllReadyH.nil
          · exact hI.2.elim
      · rcases t2 with _ | _
        · rcases c with _ | _ | _ | _ | c
          · obtain ⟨⟨B0, B1, B2, B3, B4, B5, B6, B7, B8, B9, B10, B11, B12⟩, h1, rfl, Z1, G1, N1_0, N1_1, N1_2, N1_3⟩ := hI
            change wpAnyH _ _ _ _ _ (7 + 1) #[true, true, false, true, true, false, true, false, false, true, false, false, false, false] _ _
            try simp only [Act.put, List.getElem_toArray, List.getElem_cons_succ, List.getElem_cons_zero, List.setIfInBounds_toArray, List.set_cons_zero, List.set_cons_succ]
            refine wpAnyH_ready (rs := [2, 8, 10]) (by kernel_rfl) (by simp) ?_
            refine AllReadyH.cons rfl (fun K hK => ?_) ?_
            · go_simp
              go_at_call 19
              with_reducible refine (iadd_e _ _ _ _ p q p' q' S1 S2 _ HS1.out HS2.out B4 B5 B6 B7 HP.out.1 HP.out.2 sp sq sp' sq').mono ?_
              rintro e x9 ⟨p0, q0, rfl, C0, D0, b9⟩
              try dsimp only
              refine hK.out _ _ ?_ (fun hHeld => ?_)
              · (try dsimp only); exact ⟨(B0.below b9 B0.lt).cell0, (B0.below b9 B0.lt).cell1, (B0.below b9 B0.lt).cell2, (B0.below b9 B0.lt).cell3, (B0.below b9 B0.lt).cell4, (B0.below b9 B0.lt).cell5, (B1.below b9 B1.lt).cell0, (B1.below b9 B1.lt).cell1, (B1.below b9 B1.lt).cell2, (B1.below b9 B1.lt).cell3, (B1.below b9 B1.lt).cell4, (B1.below b9 B1.lt).cell5⟩
              · exact ih (false, true, false, 1) (by decide) _ _ ⟨⟨B0.below b9 B0.lt, B1.below b9 B1.lt, B2.below b9 B2.lt, B3.below b9 B3.lt, B4.below b9, B5.below b9, B6.below b9, B7.below b9, B8.below b9, B9.below b9, B10.below b9, B11.below b9, below_then B12 (Nat.le_refl _) b9⟩, h1, p0, q0, rfl, Z1.below b9 Z1.lt, G1, N1_0, N1_1, N1_2, N1_3, C0, D0⟩
            refine AllReadyH.cons rfl (fun K hK => ?_) ?_
            · go_simp
              refine hK.out _ _ ?_ (fun hHeld => ?_)
              · (try dsimp only); exact ⟨(B0.alloc EV0).cell0, (B0.alloc EV0).cell1, (B0.alloc EV0).cell2, (B0.alloc EV0).cell3, (B0.alloc EV0).cell4, (B0.alloc EV0).cell5, (B1.alloc EV0).cell0, (B1.alloc EV0).cell1, (B1.alloc EV0).cell2, (B1.alloc EV0).cell3, (B1.alloc EV0).cell4, (B1.alloc EV0).cell5⟩
              · exact ih (true, true, false, 0) (by decide) _ _ ⟨⟨B0.alloc EV0, B1.alloc EV0, B2.alloc EV0, B3.alloc EV0, B4.alloc EV0, B5.alloc EV0, B6.alloc EV0, B7.alloc EV0, B8.alloc EV0, B9.alloc EV0, B10.alloc EV0, B11.alloc EV0, B12.alloc B12.size EV0⟩, _, h1, rfl, S6.new w' (.bool false) (.slice none 0 0) (.slice none 0 0) (.bool false) (.slice none 0 0) (.slice none 0 0), B12.size, Nat.ne_of_lt B0.lt, Nat.ne_of_lt B1.lt, Nat.ne_of_lt B2.lt, Nat.ne_of_lt B3.lt, Z1.alloc EV0, G1, N1_0, N1_1, N1_2, N1_3, Nat.ne_of_gt Z1.lt⟩
            refine AllReadyH.cons rfl (fun K hK => ?_) ?_
            · go_simp
              refine hK.out _ _ ?_ (fun hHeld => ?_)
              · (try dsimp only); exact ⟨(B0.alloc EV0).cell0, (B0.alloc EV0).cell1, (B0.alloc EV0).cell2, (B0.alloc EV0).cell3, (B0.alloc EV0).cell4, (B0.alloc EV0).cell5, (B1.alloc EV0).cell0, (B1.alloc EV0).cell1, (B1.alloc EV0).cell2, (B1.alloc EV0).cell3, (B1.alloc EV0).cell4, (B1.alloc EV0).cell5⟩
              · exact ih (false, true, true, 0) (by decide) _ _ ⟨⟨B0.alloc EV0, B1.alloc EV0, B2.alloc EV0, B3.alloc EV0, B4.alloc EV0, B5.alloc EV0, B6.alloc EV0, B7.alloc EV0, B8.alloc EV0, B9.alloc EV0, B10.alloc EV0, B11.alloc EV0, B12.alloc B12.size EV0⟩, h1, _, rfl, Z1.alloc EV0, G1, N1_0, N1_1, N1_2, N1_3, S6.new w' (.bool false) (.slice none 0 0) (.slice none 0 0) (.bool false) (.slice none 0 0) (.slice none 0 0), B12.size, Nat.ne_of_lt B0.lt, Nat.ne_of_lt B1.lt, Nat.ne_of_lt B2.lt, Nat.ne_of_lt B3.lt, Nat.ne_of_lt Z1.lt⟩
            exact AllReadyH.nil
          · obtain ⟨⟨B0, B1, B2, B3, B4, B5, B6, B7, B8, B9, B10, B11, B12⟩, h1, p0, q0, rfl, Z1, G1, N1_0, N1_1, N1_2, N1_3, C0, D0⟩ := hI
            change wpAnyH _ _ _ _ _ (6 + 1) #[true, true, true, true, true, false, true, false, false, true, false, false, false, false] _ _
            try simp only [Act.put, List.getElem_toArray, List.getElem_cons_succ, List.getElem_cons_zero, List.setIfInBounds_toArray, List.set_cons_zero, List.set_cons_succ]
            refine wpAnyH_ready (rs := [5, 8, 10]) (by kernel_rfl) (by simp) ?_
            refine AllReadyH.cons rfl (fun K hK => ?_) ?_
            · go_simp
              go_at_call 29
              with_reducible refine (imul_e _ _ _ _ p q p' q' zA1 zB1 _ HA1.out HB1.out B4 B5 B6 B7 HP.out.1 HP.out.2 sp sq sp' sq').mono ?_
              rintro e x9 ⟨p1, q1, rfl, C1, D1, b9⟩
              try dsimp only
              refine hK.out _ _ ?_ (fun hHeld => ?_)
              · (try dsimp only); exact ⟨(B0.below b9 B0.lt).cell0, (B0.below b9 B0.lt).cell1, (B0.below b9 B0.lt).cell2, (B0.below b9 B0.lt).cell3, (B0.below b9 B0.lt).cell4, (B0.below b9 B0.lt).cell5, (B1.below b9 B1.lt).cell0, (B1.below b9 B1.lt).cell1, (B1.below b9 B1.lt).cell2, (B1.below b9 B1.lt).cell3, (B1.below b9 B1.lt).cell4, (B1.below b9 B1.lt).cell5⟩
              · exact ih (false, true, false, 2) (by decide) _ _ ⟨⟨B0.below b9 B0.lt, B1.below b9 B1.lt, B2.below b9 B2.lt, B3.below b9 B3.lt, B4.below b9, B5.below b9, B6.below b9, B7.below b9, B8.below b9, B9.below b9, B10.below b9, B11.below b9, below_then B12 (Nat.le_refl _) b9⟩, h1, p0, q0, p1, q1, rfl, Z1.below b9 Z1.lt, G1, N1_0, N1_1, N1_2, N1_3, C0.below b9, D0.below b9, C1, D1⟩
            refine AllReadyH.cons rfl (fun K hK => ?_) ?_
            · go_simp
              refine hK.out _ _ ?_ (fun hHeld => ?_)
              · (try dsimp only); exact ⟨(B0.alloc EV0).cell0, (B0.alloc EV0).cell1, (B0.alloc EV0).cell2, (B0.alloc EV0).cell3, (B0.alloc EV0).cell4, (B0.alloc EV0).cell5, (B1.alloc EV0).cell0, (B1.alloc EV0).cell1, (B1.alloc EV0).cell2, (B1.alloc EV0).cell3, (B1.alloc EV0).cell4, (B1.alloc EV0).cell5⟩
              · exact ih (true, true, false, 1) (by decide) _ _ ⟨⟨B0.alloc EV0, B1.alloc EV0, B2.alloc EV0, B3.alloc EV0, B4.alloc EV0, B5.alloc EV0, B6.alloc EV0, B7.alloc EV0, B8.alloc EV0, B9.alloc EV0, B10.alloc EV0, B11.alloc EV0, B12.alloc B12.size EV0⟩, _, h1, p0, q0, rfl, S6.new w' (.bool false) (.slice none 0 0) (.slice none 0 0) (.bool false) (.slice none 0 0) (.slice none 0 0), B12.size, Nat.ne_of_lt B0.lt, Nat.ne_of_lt B1.lt, Nat.ne_of_lt B2.lt, Nat.ne_of_lt B3.lt, Z1.alloc EV0, G1, N1_0, N1_1, N1_2, N1_3, Nat.ne_of_gt Z1.lt, C0.alloc EV0, D0.alloc EV0⟩
            refine AllReadyH.cons rfl (fun K hK => ?_) ?_
            · go_simp
              refine hK.out _ _ ?_ (fun hHeld => ?_)
              · (try dsimp only); exact ⟨(B0.alloc EV0).cell0, (B0.alloc EV0).cell1, (B0.alloc EV0).cell2, (B0.alloc EV0).cell3, (B0.alloc EV0).cell4, (B0.alloc EV0).cell5, (B1.alloc EV0).cell0, (B1.alloc EV0).cell1, (B1.alloc EV0).cell2, (B1.alloc EV0).cell3, (B1.alloc EV0).cell4, (B1.alloc EV0).cell5⟩
              · exact ih (false, true, true, 1) (by decide) _ _ ⟨⟨B0.alloc EV0, B1.alloc EV0, B2.alloc EV0, B3.alloc EV0, B4.alloc EV0, B5.alloc EV0, B6.alloc EV0, B7.alloc EV0, B8.alloc EV0, B9.alloc EV0, B10.alloc EV0, B11.alloc EV0, B12.alloc B12.size EV0⟩, h1, _, p0, q0, rfl, Z1.alloc EV0, G1, N1_0, N1_1, N1_2, N1_3, S6.new w' (.bool false) (.slice none 0 0) (.slice none 0 0) (.bool false) (.slice none 0 0) (.slice none 0 0), B12.size, Nat.ne_of_lt B0.lt, Nat.ne_of_lt B1.lt, Nat.ne_of_lt B2.lt, Nat.ne_of_lt B3.lt, Nat.ne_of_lt Z1.lt, C0.alloc EV0, D0.alloc EV0⟩
            exact AllReadyH.nil
          · obtain ⟨⟨B0, B1, B2, B3, B4, B5, B6, B7, B8, B9, B10, B11, B12⟩, h1, p0, q0, p1, q1, rfl, Z1, G1, N1_0, N1_1, N1_2, N1_3, C0, D0, C1, D1⟩ := hI
            change wpAnyH _ _ _ _ _ (5 + 1) #[true, true, true, true, true, true, true, false, false, true, false, false, false, false] _ _
            try simp only [Act.put, List.getElem_toArray, List.getElem_cons_succ, List.getElem_cons_zero, List.setIfInBounds_toArray, List.set_cons_zero, List.set_cons_succ]
            refine wpAnyH_ready (rs := [7, 8, 10]) (by kernel_rfl) (by simp) ?_
            refine AllReadyH.cons rfl (fun K hK => ?_) ?_
            · go_simp
              go_at_call 30
              with_reducible refine (irelu_e _ _ p q R1 R2 _ HR1.out HR2.out B4 B5 HP.out.1 sp sq).mono ?_
              rintro e x9 ⟨p2, q2, rfl, C2, D2, b9⟩
              try dsimp only
              refine hK.out _ _ ?_ (fun hHeld => ?_)
              · (try dsimp only); exact ⟨(B0.below b9 B0.lt).cell0, (B0.below b9 B0.lt).cell1, (B0.below b9 B0.lt).cell2, (B0.below b9 B0.lt).cell3, (B0.below b9 B0.lt).cell4, (B0.below b9 B0.lt).cell5, (B1.below b9 B1.lt).cell0, (B1.below b9 B1.lt).cell1, (B1.below b9 B1.lt).cell2, (B1.below b9 B1.lt).cell3, (B1.below b9 B1.lt).cell4, (B1.below b9 B1.lt).cell5⟩
              · exact ih (false, true, false, 3) (by decide) _ _ ⟨⟨B0.below b9 B0.lt, B1.below b9 B1.lt, B2.below b9 B2.lt, B3.below b9 B3.lt, B4.below b9, B5.below b9, B6.below b9, B7.below b9, B8.below b9, B9.below b9, B10.below b9, B11.below b9, below_then B12 (Nat.le_refl _) b9⟩, h1, p0, q0, p1, q1, p2, q2, rfl, Z1.below b9 Z1.lt, G1, N1_0, N1_1, N1_2, N1_3, C0.below b9, D0.below b9, C1.below b9, D1.below b9, C2, D2⟩
            refine AllReadyH.cons rfl (fun K hK => ?_) ?_
            · go_simp
              refine hK.out _ _ ?_ (fun hHeld => ?_)
              · (try dsimp only); exact ⟨(B0.alloc EV0).cell0, (B0.alloc EV0).cell1, (B0.alloc EV0).cell2, (B0.alloc EV0).cell3, (B0.alloc EV0).cell4, (B0.alloc EV0).cell5, (B1.alloc EV0).cell0, (B1.alloc EV0).cell1, (B1.alloc EV0).cell2, (B1.alloc EV0).cell3, (B1.alloc EV0).cell4, (B1.alloc EV0).cell5⟩
              · exact ih (true, true, false, 2) (by decide) _ _ ⟨⟨B0.alloc EV0, B1.alloc EV0, B2.alloc EV0, B3.alloc EV0, B4.alloc EV0, B5.alloc EV0, B6.alloc EV0, B7.alloc EV0, B8.alloc EV0, B9.alloc EV0, B10.alloc EV0, B11.alloc EV0, B12.alloc B12.size EV0⟩, _, h1, p0, q0, p1, q1, rfl, S6.new w' (.bool false) (.slice none 0 0) (.slice none 0 0) (.bool false) (.slice none 0 0) (.slice none 0 0), B12.size, Nat.ne_of_lt B0.lt, Nat.ne_of_lt B1.lt, Nat.ne_of_lt B2.lt, Nat.ne_of_lt B3.lt, Z1.alloc EV0, G1, N1_0, N1_1, N1_2, N1_3, Nat.ne_of_gt Z1.lt, C0.alloc EV0, D0.alloc EV0, C1.alloc EV0, D1.alloc EV0⟩
            refine AllReadyH.cons rfl (fun K hK => ?_) ?_
            · go_simp
              refine hK.out _ _ ?_ (fun hHeld => ?_)
              · (try dsimp only); exact ⟨(B0.alloc EV0).cell0, (B0.alloc EV0).cell1, (B0.alloc EV0).cell2, (B0.alloc EV0).cell3, (B0.alloc EV0).cell4, (B0.alloc EV0).cell5, (B1.alloc EV0).cell0, (B1.alloc EV0).cell1, (B1.alloc EV0).cell2, (B1.alloc EV0).cell3, (B1.alloc EV0).cell4, (B1.alloc EV0).cell5⟩
              · exact ih (false, true, true, 2) (by decide) _ _ ⟨⟨B0.alloc EV0, B1.alloc EV0, B2.alloc EV0, B3.alloc EV0, B4.alloc EV0, B5.alloc EV0, B6.alloc EV0, B7.alloc EV0, B8.alloc EV0, B9.alloc EV0, B10.alloc EV0, B11.alloc EV0, B12.alloc B12.size EV0⟩, h1, _, p0, q0, p1, q1, rfl, Z1.alloc EV0, G1, N1_0, N1_1, N1_2, N1_3, S6.new w' (.bool false) (.slice none 0 0) (.slice none 0 0) (.bool false) (.slice none 0 0) (.slice none 0 0), B12.size, Nat.ne_of_lt B0.lt, Nat.ne_of_lt B1.lt, Nat.ne_of_lt B2.lt, Nat.ne_of_lt B3.lt, Nat.ne_of_lt Z1.lt, C0.alloc EV0, D0.alloc EV0, C1.alloc EV0, D1.alloc EV0⟩
            exact AllReadyH.nil
          · obtain ⟨⟨B0, B1, B2, B3, B4, B5, B6, B7, B8, B9, B10, B11, B12⟩, h1, p0, q0, p1, q1, p2, q2, rfl, Z1, G1, N1_0, N1_1, N1_2, N1_3, C0, D0, C1, D1, C2, D2⟩ := hI
            change wpAnyH _ _ _ _ _ (4 + 1) #[true, true, true, true, true, true, true, true, false, true, false, false, false, false] _ _
            try simp only [Act.put, List.getElem_toArray, List.getElem_cons_succ, List.getElem_cons_zero, List.setIfInBounds_toArray, List.set_cons_zero, List.set_cons_succ]
            refine wpAnyH_ready (rs := [8, 10]) (by kernel_rfl) (by simp) ?_
            refine AllReadyH.cons rfl (fun K hK => ?_) ?_
            · go_simp
              refine hK.out _ _ ?_ (fun hHeld => ?_)
              · (try dsimp only); exact ⟨(B0.alloc EV0).cell0, (B0.alloc EV0).cell1, (B0.alloc EV0).cell2, (B0.alloc EV0).cell3, (B0.alloc EV0).cell4, (B0.alloc EV0).cell5, (B1.alloc EV0).cell0, (B1.alloc EV0).cell1, (B1.alloc EV0).cell2, (B1.alloc EV0).cell3, (B1.alloc EV0).cell4, (B1.alloc EV0).cell5⟩
              · exact ih (true, true, false, 3) (by decide) _ _ ⟨⟨B0.alloc EV0, B1.alloc EV0, B2.alloc EV0, B3.alloc EV0, B4.alloc EV0, B5.alloc EV0, B6.alloc EV0, B7.alloc EV0, B8.alloc EV0, B9.alloc EV0, B10.alloc EV0, B11.alloc EV0, B12.alloc B12.size EV0⟩, _, h1, p0, q0, p1, q1, p2, q2, rfl, S6.new w' (.bool false) (.slice none 0 0) (.slice none 0 0) (.bool false) (.slice none 0 0) (.slice none 0 0), B12.size, Nat.ne_of_lt B0.lt, Nat.ne_of_lt B1.lt, Nat.ne_of_lt B2.lt, Nat.ne_of_lt B3.lt, Z1.alloc EV0, G1, N1_0, N1_1, N1_2, N1_3, Nat.ne_of_gt Z1.lt, C0.alloc EV0, D0.alloc EV0, C1.alloc EV0, D1.alloc EV0, C2.alloc EV0, D2.alloc EV0⟩
            refine AllReadyH.cons rfl (fun K hK => ?_) ?_
            · go_simp
              refine hK.out _ _ ?_ (fun hHeld => ?_)
              · (try dsimp only); exact ⟨(B0.alloc EV0).cell0, (B0.alloc EV0).cell1, (B0.alloc EV0).cell2, (B0.alloc EV0).cell3, (B0.alloc EV0).cell4, (B0.alloc EV0).cell5, (B1.alloc EV0).cell0, (B1.alloc EV0).cell1, (B1.alloc EV0).cell2, (B1.alloc EV0).cell3, (B1.alloc EV0).cell4, (B1.alloc EV0).cell5⟩
              · exact ih (false, true, true, 3) (by decide) _ _ ⟨⟨B0.alloc EV0, B1.alloc EV0, B2.alloc EV0, B3.alloc EV0, B4.alloc EV0, B5.alloc EV0, B6.alloc EV0, B7.alloc EV0, B8.alloc EV0, B9.alloc EV0, B10.alloc EV0, B11.alloc EV0, B12.alloc B12.size EV0⟩, h1, _, p0, q0, p1, q1, p2, q2, rfl, Z1.alloc EV0, G1, N1_0, N1_1, N1_2, N1_3, S6.new w' (.bool false) (.slice none 0 0) (.slice none 0 0) (.bool false) (.slice none 0 0) (.slice none 0 0), B12.size, Nat.ne_of_lt B0.lt, Nat.ne_of_lt B1.lt, Nat.ne_of_lt B2.lt, Nat.ne_of_lt B3.lt, Nat.ne_of_lt Z1.lt, C0.alloc EV0, D0.alloc EV0, C1.alloc EV0, D1.alloc EV0, C2.alloc EV0, D2.alloc EV0⟩
            exact AllReadyH.nil
          · exact hI.2.elim
        · rcases c with _ | _ | _ | _ | c
          · obtain ⟨⟨B0, B1, B2, B3, B4, B5, B6, B7, B8, B9, B10, B11, B12⟩, h1, h2, rfl, Z1, G1, N1_0, N1_1, N1_2, N1_3, Z2, G2, N2_0, N2_1, N2_2, N2_3, M1_2⟩ := hI
            change wpAnyH _ _ _ _ _ (6 + 1) #[true, true, false, true, true, false, true, false, false, true, true, false, false, false] _ _
            try simp only [Act.put, List.getElem_toArray, List.getElem_cons_succ, List.getElem_cons_zero, List.setIfInBounds_toArray, List.set_cons_zero, List.set_cons_succ]
            refine wpAnyH_ready (rs := [2, 8]) (by kernel_rfl) (by simp) ?_
            refine AllReadyH.cons rfl (fun K hK => ?_) ?_
            · go_simp
              go_at_call 19
              with_reducible refine (iadd_e _ _ _ _ p q p' q' S1 S2 _ HS1.out HS2.out B4 B5 B6 B7 HP.out.1 HP.out.2 sp sq sp' sq').mono ?_
              rintro e x9 ⟨p0, q0, rfl, C0, D0, b9⟩
              try dsimp only
              refine hK.out _ _ ?_ (fun hHeld => ?_)
              · (try dsimp only); exact ⟨(B0.below b9 B0.lt).cell0, (B0.below b9 B0.lt).cell1, (B0.below b9 B0.lt).cell2, (B0.below b9 B0.lt).cell3, (B0.below b9 B0.lt).cell4, (B0.below b9 B0.lt).cell5, (B1.below b9 B1.lt).cell0, (B1.below b9 B1.lt).cell1, (B1.below b9 B1.lt).cell2, (B1.below b9 B1.lt).cell3, (B1.below b9 B1.lt).cell4, (B1.below b9 B1.lt).cell5⟩
              · exact ih (false, true, true, 1) (by decide) _ _ ⟨⟨B0.below b9 B0.lt, B1.below b9 B1.lt, B2.below b9 B2.lt, B3.below b9 B3.lt, B4.below b9, B5.below b9, B6.below b9, B7.below b9, B8.below b9, B9.below b9, B10.below b9, B11.below b9, below_then B12 (Nat.le_refl _) b9⟩, h1, h2, p0, q0, rfl, Z1.below b9 Z1.lt, G1, N1_0, N1_1, N1_2, N1_3, Z2.below b9 Z2.lt, G2, N2_0, N2_1, N2_2, N2_3, M1_2, C0, D0⟩
            refine AllReadyH.cons rfl (fun K hK => ?_) ?_
            · go_simp
              refine hK.out _ _ ?_ (fun hHeld => ?_)
              · (try dsimp only); exact ⟨(B0.alloc EV0).cell0, (B0.alloc EV0).cell1, (B0.alloc EV0).cell2, (B0.alloc EV0).cell3, (B0.alloc EV0).cell4, (B0.alloc EV0).cell5, (B1.alloc EV0).cell0, (B1.alloc EV0).cell1, (B1.alloc EV0).cell2, (B1.alloc EV0).cell3, (B1.alloc EV0).cell4, (B1.alloc EV0).cell5⟩
              · exact ih (true, true, true, 0) (by decide) _ _ ⟨⟨B0.alloc EV0, B1.alloc EV0, B2.alloc EV0, B3.alloc EV0, B4.alloc EV0, B5.alloc EV0, B6.alloc EV0, B7.alloc EV0, B8.alloc EV0, B9.alloc EV0, B10.alloc EV0, B11.alloc EV0, B12.alloc B12.size EV0⟩, _, h1, h2, rfl, S6.new w' (.bool false) (.slice none 0 0) (.slice none 0 0) (.bool false) (.slice none 0 0) (.slice none 0 0), B12.size, Nat.ne_of_lt B0.lt, Nat.ne_of_lt B1.lt, Nat.ne_of_lt B2.lt, Nat.ne_of_lt B3.lt, Z1.alloc EV0, G1, N1_0, N1_1, N1_2, N1_3, Nat.ne_of_gt Z1.lt, Z2.alloc EV0, G2, N2_0, N2_1, N2_2, N2_3, Nat.ne_of_gt Z2.lt, M1_2⟩
            exact AllReadyH.nil
          · obtain ⟨⟨B0, B1, B2, B3, B4, B5, B6, B7, B8, B9, B10, B11, B12⟩, h1, h2, p0, q0, rfl, Z1, G1, N1_0, N1_1, N1_2, N1_3, Z2, G2, N2_0, N2_1, N2_2, N2_3, M1_2, C0, D0⟩ := hI
            change wpAnyH _ _ _ _ _ (5 + 1) #[true, true, true, true, true, false, true, false, false, true, true, false, false, false] _ _
            try simp only [Act.put, List.getElem_toArray, List.getElem_cons_succ, List.getElem_cons_zero, List.setIfInBounds_toArray, List.set_cons_zero, List.set_cons_succ]
            refine wpAnyH_ready (rs := [5, 8]) (by kernel_rfl) (by simp) ?_
            refine AllReadyH.cons rfl (fun K hK => ?_) ?_
            · go_simp
              go_at_call 29
              with_reducible refine (imul_e _ _ _ _ p q p' q' zA1 zB1 _ HA1.out HB1.out B4 B5 B6 B7 HP.out.1 HP.out.2 sp sq sp' sq').mono ?_
              rintro e x9 ⟨p1, q1, rfl, C1, D1, b9⟩
              try dsimp only
              refine hK.out _ _ ?_ (fun hHeld => ?_)
              · (try dsimp only); exact ⟨(B0.below b9 B0.lt).cell0, (B0.below b9 B0.lt).cell1, (B0.below b9 B0.lt).cell2, (B0.below b9 B0.lt).cell3, (B0.below b9 B0.lt).cell4, (B0.below b9 B0.lt).cell5, (B1.below b9 B1.lt).cell0, (B1.below b9 B1.lt).cell1, (B1.below b9 B1.lt).cell2, (B1.below b9 B1.lt).cell3, (B1.below b9 B1.lt).cell4, (B1.below b9 B1.lt).cell5⟩
              · exact ih (false, true, true, 2) (by decide) _ _ ⟨⟨B0.below b9 B0.lt, B1.below b9 B1.lt, B2.below b9 B2.lt, B3.below b9 B3.lt, B4.below b9, B5.below b9, B6.below b9, B7.below b9, B8.below b9, B9.below b9, B10.below b9, B11.below b9, below_then B12 (Nat.le_refl _) b9⟩, h1, h2, p0, q0, p1, q1, rfl, Z1.below b9 Z1.lt, G1, N1_0, N1_1, N1_2, N1_3, Z2.below b9 Z2.lt, G2, N2_0, N2_1, N2_2, N2_3, M1_2, C0.below b9, D0.below b9, C1, D1⟩
            refine AllReadyH.cons rfl (fun K hK => ?_) ?_
            · go_simp
              refine hK.out _ _ ?_ (fun hHeld => ?_)
              · (try dsimp only); exact ⟨(B0.alloc EV0).cell0, (B0.alloc EV0).cell1, (B0.alloc EV0).cell2, (B0.alloc EV0).cell3, (B0.alloc EV0).cell4, (B0.alloc EV0).cell5, (B1.alloc EV0).cell0, (B1.alloc EV0).cell1, (B1.alloc EV0).cell2, (B1.alloc EV0).cell3, (B1.alloc EV0).cell4, (B1.alloc EV0).cell5⟩
              · exact ih (true, true, true, 1) (by decide) _ _ ⟨⟨B0.alloc EV0, B1.alloc EV0, B2.alloc EV0, B3.alloc EV0, B4.alloc EV0, B5.alloc EV0, B6.alloc EV0, B7.alloc EV0, B8.alloc EV0, B9.alloc EV0, B10.alloc EV0, B11.alloc EV0, B12.alloc B12.size EV0⟩, _, h1, h2, p0, q0, rfl, S6.new w' (.bool false) (.slice none 0 0) (.slice none 0 0) (.bool false) (.slice none 0 0) (.slice none 0 0), B12.size, Nat.ne_of_lt B0.lt, Nat.ne_of_lt B1.lt, Nat.ne_of_lt B2.lt, Nat.ne_of_lt B3.lt, Z1.alloc EV0, G1, N1_0, N1_1, N1_2, N1_3, Nat.ne_of_gt Z1.lt, Z2.alloc EV0, G2, N2_0, N2_1, N2_2, N2_3, Nat.ne_of_gt Z2.lt, M1_2, C0.alloc EV0, D0.alloc EV0⟩
            exact AllReadyH.nil
          · obtain ⟨⟨B0, B1, B2, B3, B4, B5, B6, B7, B8, B9, B10, B11, B12⟩, h1, h2, p0, q0, p1, q1, rfl, Z1, G1, N1_0, N1_1, N1_2, N1_3, Z2, G2, N2_0, N2_1, N2_2, N2_3, M1_2, C0, D0, C1, D1⟩ := hI
            change wpAnyH _ _ _ _ _ (4 + 1) #[true, true, true, true, true, true, true, false, false, true, true, false, false, false] _ _
            try simp only [Act.put, List.getElem_toArray, List.getElem_cons_succ, List.getElem_cons_zero, List.setIfInBounds_toArray, List.set_cons_zero, List.set_cons_succ]
            refine wpAnyH_ready (rs := [7, 8]) (by kernel_rfl) (by simp) ?_
            refine AllReadyH.cons rfl (fun K hK => ?_) ?_
            · go_simp
              go_at_call 30
              with_reducible refine (irelu_e _ _ p q R1 R2 _ HR1.out HR2.out B4 B5 HP.out.1 sp sq).mono ?_
              rintro e x9 ⟨p2, q2, rfl, C2, D2, b9⟩
              try dsimp only
              refine hK.out _ _ ?_ (fun hHeld => ?_)
              · (try dsimp only); exact ⟨(B0.below b9 B0.lt).cell0, (B0.below b9 B0.lt).cell1, (B0.below b9 B0.lt).cell2, (B0.below b9 B0.lt).cell3, (B0.below b9 B0.lt).cell4, (B0.below b9 B0.lt).cell5, (B1.below b9 B1.lt).cell0, (B1.below b9 B1.lt).cell1, (B1.below b9 B1.lt).cell2, (B1.below b9 B1.lt).cell3, (B1.below b9 B1.lt).cell4, (B1.below b9 B1.lt).cell5⟩
              · exact ih (false, true, true, 3) (by decide) _ _ ⟨⟨B0.below b9 B0.lt, B1.below b9 B1.lt, B2.below b9 B2.lt, B3.below b9 B3.lt, B4.below b9, B5.below b9, B6.below b9, B7.below b9, B8.below b9, B9.below b9, B10.below b9, B11.below b9, below_then B12 (Nat.le_refl _) b9⟩, h1, h2, p0, q0, p1, q1, p2, q2, rfl, Z1.below b9 Z1.lt, G1, N1_0, N1_1, N1_2, N1_3, Z2.below b9 Z2.lt, G2, N2_0, N2_1, N2_2, N2_3, M1_2, C0.below b9, D0.below b9, C1.below b9, D1.below b9, C2, D2⟩
            refine AllReadyH.cons rfl (fun K hK => ?_) ?_
            · go_simp
              refine hK.out _ _ ?_ (fun hHeld => ?_)
              · (try dsimp only); exact ⟨(B0.alloc EV0).cell0, (B0.alloc EV0).cell1, (B0.alloc EV0).cell2, (B0.alloc EV0).cell3, (B0.alloc EV0).cell4, (B0.alloc EV0).cell5, (B1.alloc EV0).cell0, (B1.alloc EV0).cell1, (B1.alloc EV0).cell2, (B1.alloc EV0).cell3, (B1.alloc EV0).cell4, (B1.alloc EV0).cell5⟩
              · exact ih (true, true, true, 2) (by decide) _ _ ⟨⟨B0.alloc EV0, B1.alloc EV0, B2.alloc EV0, B3.alloc EV0, B4.alloc EV0, B5.alloc EV0, B6.alloc EV0, B7.alloc EV0, B8.alloc EV0, B9.alloc EV0, B10.alloc EV0, B11.alloc EV0, B12.alloc B12.size EV0⟩, _, h1, h2, p0, q0, p1, q1, rfl, S6.new w' (.bool false) (.slice none 0 0) (.slice none 0 0) (.bool false) (.slice none 0 0) (.slice none 0 0), B12.size, Nat.ne_of_lt B0.lt, Nat.ne_of_lt B1.lt, Nat.ne_of_lt B2.lt, Nat.ne_of_lt B3.lt, Z1.alloc EV0, G1, N1_0, N1_1, N1_2, N1_3, Nat.ne_of_gt Z1.lt, Z2.alloc EV0, G2, N2_0, N2_1, N2_2, N2_3, Nat.ne_of_gt Z2.lt, M1_2, C0.alloc EV0, D0.alloc EV0, C1.alloc EV0, D1.alloc EV0⟩
            exact AllReadyH.nil
          · obtain ⟨⟨B0, B1, B2, B3, B4, B5, B6, B7, B8, B9, B10, B11, B12⟩, h1, h2, p0, q0, p1, q1, p2, q2, rfl, Z1, G1, N1_0, N1_1, N1_2, N1_3, Z2, G2, N2_0, N2_1, N2_2, N2_3, M1_2, C0, D0, C1, D1, C2, D2⟩ := hI
            change wpAnyH _ _ _ _ _ (3 + 1) #[true, true, true, true, true, true, true, true, false, true, true, false, false, false] _ _
            try simp only [Act.put, List.getElem_toArray, List.getElem_cons_succ, List.getElem_cons_zero, List.setIfInBounds_toArray, List.set_cons_zero, List.set_cons_succ]
            refine wpAnyH_ready (rs := [8]) (by kernel_rfl) (by simp) ?_
            refine AllReadyH.cons rfl (fun K hK => ?_) ?_
            · go_simp
              refine hK.out _ _ ?_ (fun hHeld => ?_)
              · (try dsimp only); exact ⟨(B0.alloc EV0).cell0, (B0.alloc EV0).cell1, (B0.alloc EV0).cell2, (B0.alloc EV0).cell3, (B0.alloc EV0).cell4, (B0.alloc EV0).cell5, (B1.alloc EV0).cell0, (B1.alloc EV0).cell1, (B1.alloc EV0).cell2, (B1.alloc EV0).cell3, (B1.alloc EV0).cell4, (B1.alloc EV0).cell5⟩
              · exact ih (true, true, true, 3) (by decide) _ _ ⟨⟨B0.alloc EV0, B1.alloc EV0, B2.alloc EV0, B3.alloc EV0, B4.alloc EV0, B5.alloc EV0, B6.alloc EV0, B7.alloc EV0, B8.alloc EV0, B9.alloc EV0, B10.alloc EV0, B11.alloc EV0, B12.alloc B12.size EV0⟩, _, h1, h2, p0, q0, p1, q1, p2, q2, rfl, S6.new w' (.bool false) (.slice none 0 0) (.slice none 0 0) (.bool false) (.slice none 0 0) (.slice none 0 0), B12.size, Nat.ne_of_lt B0.lt, Nat.ne_of_lt B1.lt, Nat.ne_of_lt B2.lt, Nat.ne_of_lt B3.lt, Z1.alloc EV0, G1, N1_0, N1_1, N1_2, N1_3, Nat.ne_of_gt Z1.lt, Z2.alloc EV0, G2, N2_0, N2_1, N2_2, N2_3, Nat.ne_of_gt Z2.lt, M1_2, C0.alloc EV0, D0.alloc EV0, C1.alloc EV0, D1.alloc EV0, C2.alloc EV0, D2.alloc EV0⟩
            exact AllReadyH.nil
          · exact hI.2.elim
    · rcases t1 with _ | _
      · rcases t2 with _ | _
        · rcases c with _ | _ | _ | _ | c
          · obtain ⟨⟨B0, B1, B2, B3, B4, B5, B6, B7, B8, B9, B10, B11, B12⟩, h0, rfl, Z0, G0, N0_0, N0_1, N0_2, N0_3⟩ := hI
            change wpAnyH _ _ _ _ _ (7 + 1) #[true, true, false, true, true, false, true, false, true, false, false, false, false, false] _ _
            try simp only [Act.put, List.getElem_toArray, List.getElem_cons_succ, List.getElem_cons_zero, List.setIfInBounds_toArray, List.set_cons_zero, List.set_cons_succ]
            refine wpAnyH_ready (rs := [2, 9, 10]) (by kernel_rfl) (by simp) ?_
            refine AllReadyH.cons rfl (fun K hK => ?_) ?_
            · go_simp
              go_at_call 19
              with_reducible refine (iadd_e _ _ _ _ p q p' q' S1 S2 _ HS1.out HS2.out B4 B5 B6 B7 HP.out.1 HP.out.2 sp sq sp' sq').mono ?_
              rintro e x9 ⟨p0, q0, rfl, C0, D0, b9⟩
              try dsimp only
              refine hK.out _ _ ?_ (fun hHeld => ?_)
              · (try dsimp only); exact ⟨(B0.below b9 B0.lt).cell0, (B0.below b9 B0.lt).cell1, (B0.below b9 B0.lt).cell2, (B0.below b9 B0.lt).cell3, (B0.below b9 B0.lt).cell4, (B0.below b9 B0.lt).cell5, (B1.below b9 B1.lt).cell0, (B1.below b9 B1.lt).cell1, (B1.below b9 B1.lt).cell2, (B1.below b9 B1.lt).cell3, (B1.below b9 B1.lt).cell4, (B1.below b9 B1.lt).cell5⟩
              · exact ih (true, false, false, 1) (by decide) _ _ ⟨⟨B0.below b9 B0.lt, B1.below b9 B1.lt, B2.below b9 B2.lt, B3.below b9 B3.lt, B4.below b9, B5.below b9, B6.below b9, B7.below b9, B8.below b9, B9.below b9, B10.below b9, B11.below b9, below_then B12 (Nat.le_refl _) b9⟩, h0, p0, q0, rfl, Z0.below b9 Z0.lt, G0, N0_0, N0_1, N0_2, N0_3, C0, D0⟩
            refine AllReadyH.cons rfl (fun K hK => ?_) ?_
            · go_simp
              refine hK.out _ _ ?_ (fun hHeld => ?_)
              · (try dsimp only); exact ⟨(B0.alloc EV0).cell0, (B0.alloc EV0).cell1, (B0.alloc EV0).cell2, (B0.alloc EV0).cell3, (B0.alloc EV0).cell4, (B0.alloc EV0).cell5, (B1.alloc EV0).cell0, (B1.alloc EV0).cell1, (B1.alloc EV0).cell2, (B1.alloc EV0).cell3, (B1.alloc EV0).cell4, (B1.alloc EV0).cell5⟩
              · exact ih (true, true, false, 0) (by decide) _ _ ⟨⟨B0.alloc EV0, B1.alloc EV0, B2.alloc EV0, B3.alloc EV0, B4.alloc EV0, B5.alloc EV0, B6.alloc EV0, B7.alloc EV0, B8.alloc EV0, B9.alloc EV0, B10.alloc EV0, B11.alloc EV0, B12.alloc B12.size EV0⟩, h0, _, rfl, Z0.alloc EV0, G0, N0_0, N0_1, N0_2, N0_3, S6.new w' (.bool false) (.slice none 0 0) (.slice none 0 0) (.bool false) (.slice none 0 0) (.slice none 0 0), B12.size, Nat.ne_of_lt B0.lt, Nat.ne_of_lt B1.lt, Nat.ne_of_lt B2.lt, Nat.ne_of_lt B3.lt, Nat.ne_of_lt Z0.lt⟩
            refine AllReadyH.cons rfl (fun K hK => ?_) ?_
            · go_simp
              refine hK.out _ _ ?_ (fun hHeld => ?_)
              · (try dsimp only); exact ⟨(B0.alloc EV0).cell0, (B0.alloc EV0).cell1, (B0.alloc EV0).cell2, (B0.alloc EV0).cell3, (B0.alloc EV0).cell4, (B0.alloc EV0).cell5, (B1.alloc EV0).cell0, (B1.alloc EV0).cell1, (B1.alloc EV0).cell2, (B1.alloc EV0).cell3, (B1.alloc EV0).cell4, (B1.alloc EV0).cell5⟩
              · exact ih (true, false, true, 0) (by decide) _ _ ⟨⟨B0.alloc EV0, B1.alloc EV0, B2.alloc EV0, B3.alloc EV0, B4.alloc EV0, B5.alloc EV0, B6.alloc EV0, B7.alloc EV0, B8.alloc EV0, B9.alloc EV0, B10.alloc EV0, B11.alloc EV0, B12.alloc B12.size EV0⟩, h0, _, rfl, Z0.alloc EV0, G0, N0_0, N0_1, N0_2, N0_3, S6.new w' (.bool false) (.slice none 0 0) (.slice none 0 0) (.bool false) (.slice none 0 0) (.slice none 0 0), B12.size, Nat.ne_of_lt B0.lt, Nat.ne_of_lt B1.lt, Nat.ne_of_lt B2.lt, Nat.ne_of_lt B3.lt, Nat.ne_of_lt Z0.lt⟩
            exact AllReadyH.nil
          · obtain ⟨⟨B0, B1, B2, B3, B4, B5, B6, B7, B8, B9, B10, B11, B12⟩, h0, p0, q0, rfl, Z0, G0, N0_0, N0_1, N0_2, N0_3, C0, D0⟩ := hI
            change wpAnyH _ _ _ _ _ (6 + 1) #[true, true, true, true, true, false, true, false, true, false, false, false, false, false] _ _
            try simp only [Act.put, List.getElem_toArray, List.getElem_cons_succ, List.getElem_cons_zero, List.setIfInBounds_toArray, List.set_cons_zero, List.set_cons_succ]
            refine wpAnyH_ready (rs := [5, 9, 10]) (by kernel_rfl) (by simp) ?_
            refine AllReadyH.cons rfl (fun K hK => ?_) ?_
            · go_simp
              go_at_call 29
              with_reducible refine (imul_e _ _ _ _ p q p' q' zA1 zB1 _ HA1.out HB1.out B4 B5 B6 B7 HP.out.1 HP.out.2 sp sq sp' sq').mono ?_
              rintro e x9 ⟨p1, q1, rfl, C1, D1, b9⟩
              try dsimp only
              refine hK.out _ _ ?_ (fun hHeld => ?_)
              · (try dsimp only); exact ⟨(B0.below b9 B0.lt).cell0, (B0.below b9 B0.lt).cell1, (B0.below b9 B0.lt).cell2, (B0.below b9 B0.lt).cell3, (B0.below b9 B0.lt).cell4, (B0.below b9 B0.lt).cell5, (B1.below b9 B1.lt).cell0, (B1.below b9 B1.lt).cell1, (B1.below b9 B1.lt).cell2, (B1.below b9 B1.lt).cell3, (B1.below b9 B1.lt).cell4, (B1.below b9 B1.lt).cell5⟩
              · exact ih (true, false, false, 2) (by decide) _ _ ⟨⟨B0.below b9 B0.lt, B1.below b9 B1.lt, B2.below b9 B2.lt, B3.below b9 B3.lt, B4.below b9, B5.below b9, B6.below b9, B7.below b9, B8.below b9, B9.below b9, B10.below b9, B11.below b9, below_then B12 (Nat.le_refl _) b9⟩, h0, p0, q0, p1, q1, rfl, Z0.below b9 Z0.lt, G0, N0_0, N0_1, N0_2, N0_3, C0.below b9, D0.below b9, C1, D1⟩
            refine AllReadyH.cons rfl (fun K hK => ?_) ?_
            · go_simp
              refine hK.out _ _ ?_ (fun hHeld => ?_)
              · (try dsimp only); exact ⟨(B0.alloc EV0).cell0, (B0.alloc EV0).cell1, (B0.alloc EV0).cell2, (B0.alloc EV0).cell3, (B0.alloc EV0).cell4, (B0.alloc EV0).cell5, (B1.alloc EV0).cell0, (B1.alloc EV0).cell1, (B1.alloc EV0).cell2, (B1.alloc EV0).cell3, (B1.alloc EV0).cell4, (B1.alloc EV0).cell5⟩
              · exact ih (true, true, false, 1) (by decide) _ _ ⟨⟨B0.alloc EV0, B1.alloc EV0, B2.alloc EV0, B3.alloc EV0, B4.alloc EV0, B5.alloc EV0, B6.alloc EV0, B7.alloc EV0, B8.alloc EV0, B9.alloc EV0, B10.alloc EV0, B11.alloc EV0, B12.alloc B12.size EV0⟩, h0, _, p0, q0, rfl, Z0.alloc EV0, G0, N0_0, N0_1, N0_2, N0_3, S6.new w' (.bool false) (.slice none 0 0) (.slice none 0 0) (.bool false) (.slice none 0 0) (.slice none 0 0), B12.size, Nat.ne_of_lt B0.lt, Nat.ne_of_lt B1.lt, Nat.ne_of_lt B2.lt, Nat.ne_of_lt B3.lt, Nat.ne_of_lt Z0.lt, C0.alloc EV0, D0.alloc EV0⟩
            refine AllReadyH.cons rfl (fun K hK => ?_) ?_
            · go_simp
              refine hK.out _ _ ?_ (fun hHeld => ?_)
              · (try dsimp only); exact ⟨(B0.alloc EV0).cell0, (B0.alloc EV0).cell1, (B0.alloc EV0).cell2, (B0.alloc EV0).cell3, (B0.alloc EV0).cell4, (B0.alloc EV0).cell5, (B1.alloc EV0).cell0, (B1.alloc EV0).cell1, (B1.alloc EV0).cell2, (B1.alloc EV0).cell3, (B1.alloc EV0).cell4, (B1.alloc EV0).cell5⟩
              · exact ih (true, false, true, 1) (by decide) _ _ ⟨⟨B0.alloc EV0, B1.alloc EV0, B2.alloc EV0, B3.alloc EV0, B4.alloc EV0, B5.alloc EV0, B6.alloc EV0, B7.alloc EV0, B8.alloc EV0, B9.alloc EV0, B10.alloc EV0, B11.alloc EV0, B12.alloc B12.size EV0⟩, h0, _, p0, q0, rfl, Z0.alloc EV0, G0, N0_0, N0_1, N0_2, N0_3, S6.new w' (.bool false) (.slice none 0 0) (.slice none 0 0) (.bool false) (.slice none 0 0) (.slice none 0 0), B12.size, Nat.ne_of_lt B0.lt, Nat.ne_of_lt B1.lt, Nat.ne_of_lt B2.lt, Nat.ne_of_lt B3.lt, Nat.ne_of_lt Z0.lt, C0.alloc EV0, D0.alloc EV0⟩
            exact AllReadyH.nil
          · obtain ⟨⟨B0, B1, B2, B3, B4, B5, B6, B7, B8, B9, B10, B11, B12⟩, h0, p0, q0, p1, q1, rfl, Z0, G0, N0_0, N0_1, N0_2, N0_3, C0, D0, C1, D1⟩ := hI
            change wpAnyH _ _ _ _ _ (5 + 1) #[true, true, true, true, true, true, true, false, true, false, false, false, false, false] _ _
            try simp only [Act.put, List.getElem_toArray, List.getElem_cons_succ, List.getElem_cons_zero, List.setIfInBounds_toArray, List.set_cons_zero, List.set_cons_succ]
            refine wpAnyH_ready (rs := [7, 9, 10]) (by kernel_rfl) (by simp) ?_
            refine AllReadyH.cons rfl (fun K hK => ?_) ?_
            · go_simp
              go_at_call 30
              with_reducible refine (irelu_e _ _ p q R1 R2 _ HR1.out HR2.out B4 B5 HP.out.1 sp sq).mono ?_
              rintro e x9 ⟨p2, q2, rfl, C2, D2, b9⟩
              try dsimp only
              refine hK.out _ _ ?_ (fun hHeld => ?_)
              · (try dsimp only); exact ⟨(B0.below b9 B0.lt).cell0, (B0.below b9 B0.lt).cell1, (B0.below b9 B0.lt).cell2, (B0.below b9 B0.lt).cell3, (B0.below b9 B0.lt).cell4, (B0.below b9 B0.lt).cell5, (B1.below b9 B1.lt).cell0, (B1.below b9 B1.lt).cell1, (B1.below b9 B1.lt).cell2, (B1.below b9 B1.lt).cell3, (B1.below b9 B1.lt).cell4, (B1.below b9 B1.lt).cell5⟩
              · exact ih (true, false, false, 3) (by decide) _ _ ⟨⟨B0.below b9 B0.lt, B1.below b9 B1.lt, B2.below b9 B2.lt, B3.below b9 B3.lt, B4.below b9, B5.below b9, B6.below b9, B7.below b9, B8.below b9, B9.below b9, B10.below b9, B11.below b9, below_then B12 (Nat.le_refl _) b9⟩, h0, p0, q0, p1, q1, p2, q2, rfl, Z0.below b9 Z0.lt, G0, N0_0, N0_1, N0_2, N0_3, C0.below b9, D0.below b9, C1.below b9, D1.below b9, C2, D2⟩
            refine AllReadyH.cons rfl (fun K hK => ?_) ?_
            · go_simp
              refine hK.out _ _ ?_ (fun hHeld => ?_)
              · (try dsimp only); exact ⟨(B0.alloc EV0).cell0, (B0.alloc EV0).cell1, (B0.alloc EV0).cell2, (B0.alloc EV0).cell3, (B0.alloc EV0).cell4, (B0.alloc EV0).cell5, (B1.alloc EV0).cell0, (B1.alloc EV0).cell1, (B1.alloc EV0).cell2, (B1.alloc EV0).cell3, (B1.alloc EV0).cell4, (B1.alloc EV0).cell5⟩
              · exact ih (true, true, false, 2) (by decide) _ _ ⟨⟨B0.alloc EV0, B1.alloc EV0, B2.alloc EV0, B3.alloc EV0, B4.alloc EV0, B5.alloc EV0, B6.alloc EV0, B7.alloc EV0, B8.alloc EV0, B9.alloc EV0, B10.alloc EV0, B11.alloc EV0, B12.alloc B12.size EV0⟩, h0, _, p0, q0, p1, q1, rfl, Z0.alloc EV0, G0, N0_0, N0_1, N0_2, N0_3, S6.new w' (.bool false) (.slice none 0 0) (.slice none 0 0) (.bool false) (.slice none 0 0) (.slice none 0 0), B12.size, Nat.ne_of_lt B0.lt, Nat.ne_of_lt B1.lt, Nat.ne_of_lt B2.lt, Nat.ne_of_lt B3.lt, Nat.ne_of_lt Z0.lt, C0.alloc EV0, D0.alloc EV0, C1.alloc EV0, D1.alloc EV0⟩
            refine AllReadyH.cons rfl (fun K hK => ?_) ?_
            · go_simp
              refine hK.out _ _ ?_ (fun hHeld => ?_)
              · (try dsimp only); exact ⟨(B0.alloc EV0).cell0, (B0.alloc EV0).cell1, (B0.alloc EV0).cell2, (B0.alloc EV0).cell3, (B0.alloc EV0).cell4, (B0.alloc EV0).cell5, (B1.alloc EV0).cell0, (B1.alloc EV0).cell1, (B1.alloc EV0).cell2, (B1.alloc EV0).cell3, (B1.alloc EV0).cell4, (B1.alloc EV0).cell5⟩
              · exact ih (true, false, true, 2) (by decide) _ _ ⟨⟨B0.alloc EV0, B1.alloc EV0, B2.alloc EV0, B3.alloc EV0, B4.alloc EV0, B5.alloc EV0, B6.alloc EV0, B7.alloc EV0, B8.alloc EV0, B9.alloc EV0, B10.alloc EV0, B11.alloc EV0, B12.alloc B12.size EV0⟩, h0, _, p0, q0, p1, q1, rfl, Z0.alloc EV0, G0, N0_0, N0_1, N0_2, N0_3, S6.new w' (.bool false) (.slice none 0 0) (.slice none 0 0) (.bool false) (.slice none 0 0) (.slice none 0 0), B12.size, Nat.ne_of_lt B0.lt, Nat.ne_of_lt B1.lt, Nat.ne_of_lt B2.lt, Nat.ne_of_lt B3.lt, Nat.ne_of_lt Z0.lt, C0.alloc EV0, D0.alloc EV0, C1.alloc EV0, D1.alloc EV0⟩
            exact AllReadyH.nil
          · obtain ⟨⟨B0, B1, B2, B3, B4, B5, B6, B7, B8, B9, B10, B11, B12⟩, h0, p0, q0, p1, q1, p2, q2, rfl, Z0, G0, N0_0, N0_1, N0_2, N0_3, C0, D0, C1, D1, C2, D2⟩ := hI
            change wpAnyH _ _ _ _ _ (4 + 1) #[true, true, true, true, true, true, true, true, true, false, false, false, false, false] _ _
            try simp only [Act.put, List.getElem_toArray, List.getElem_cons_succ, List.getElem_cons_zero, List.setIfInBounds_toArray, List.set_cons_zero, List.set_cons_succ]
            refine wpAnyH_ready (rs := [9, 10]) (by kernel_rfl) (by simp) ?_
            refine AllReadyH.cons rfl (fun K hK => ?_) ?_
            · go_simp
              refine hK.out _ _ ?_ (fun hHeld => ?_)
              · (try dsimp only); exact ⟨(B0.alloc EV0).cell0, (B0.alloc EV0).cell1, (B0.alloc EV0).cell2, (B0.alloc EV0).cell3, (B0.alloc EV0).cell4, (B0.alloc EV0).cell5, (B1.alloc EV0).cell0, (B1.alloc EV0).cell1, (B1.alloc EV0).cell2, (B1.alloc EV0).cell3, (B1.alloc EV0).cell4, (B1.alloc EV0).cell5⟩
              · exact ih (true, true, false, 3) (by decide) _ _ ⟨⟨B0.alloc EV0, B1.alloc EV0, B2.alloc EV0, B3.alloc EV0, B4.alloc EV0, B5.alloc EV0, B6.alloc EV0, B7.alloc EV0, B8.alloc EV0, B9.alloc EV0, B10.alloc EV0, B11.alloc EV0, B12.alloc B12.size EV0⟩, h0, _, p0, q0, p1, q1, p2, q2, rfl, Z0.alloc EV0, G0, N0_0, N0_1, N0_2, N0_3, S6.new w' (.bool false) (.slice none 0 0) (.slice none 0 0) (.bool false) (.slice none 0 0) (.slice none 0 0), B12.size, Nat.ne_of_lt B0.lt, Nat.ne_of_lt B1.lt, Nat.ne_of_lt B2.lt, Nat.ne_of_lt B3.lt, Nat.ne_of_lt Z0.lt, C0.alloc EV0, D0.alloc EV0, C1.alloc EV0, D1.alloc EV0, C2.alloc EV0, D2.alloc EV0⟩
            refine AllReadyH.cons rfl (fun K hK => ?_) ?_
            · go_simp
              refine hK.out _ _ ?_ (fun hHeld => ?_)
              · (try dsimp only); exact ⟨(B0.alloc EV0).cell0, (B0.alloc EV0).cell1, (B0.alloc EV0).cell2, (B0.alloc EV0).cell3, (B0.alloc EV0).cell4, (B0.alloc EV0).cell5, (B1.alloc EV0).cell0, (B1.alloc EV0).cell1, (B1.alloc EV0).cell2, (B1.alloc EV0).cell3, (B1.alloc EV0).cell4, (B1.alloc EV0).cell5⟩
              · exact ih (true, false, true, 3) (by decide) _ _ ⟨⟨B0.alloc EV0, B1.alloc EV0, B2.alloc EV0, B3.alloc EV0, B4.alloc EV0, B5.alloc EV0, B6.alloc EV0, B7.alloc EV0, B8.alloc EV0, B9.alloc EV0, B10.alloc EV0, B11.alloc EV0, B12.alloc B12.size EV0⟩, h0, _, p0, q0, p1, q1, p2, q2, rfl, Z0.alloc EV0, G0, N0_0, N0_1, N0_2, N0_3, S6.new w' (.bool false) (.slice none 0 0) (.slice none 0 0) (.bool false) (.slice none 0 0) (.slice none 0 0), B12.size, Nat.ne_of_lt B0.lt, Nat.ne_of_lt B1.lt, Nat.ne_of_lt B2.lt, Nat.ne_of_lt B3.lt, Nat.ne_of_lt Z0.lt, C0.alloc EV0, D0.alloc EV0, C1.alloc EV0, D1.alloc EV0, C2.alloc EV0, D2.alloc EV0⟩
            exact AllReadyH.nil
          · exact hI.2.elim
        · rcases c with _ | _ | _ | _ | c
          · obtain ⟨⟨B0, B1, B2, B3, B4, B5, B6, B7, B8, B9, B10, B11, B12⟩, h0, h2, rfl, Z0, G0, N0_0, N0_1, N0_2, N0_3, Z2, G2, N2_0, N2_1, N2_2, N2_3, M0_2⟩ := hI
            change wpAnyH _ _ _ _ _ (6 + 1) #[true, true, false, true, true, false, true, false, true, false, true, false, false, false] _ _
            try simp only [Act.put, List.getElem_toArray, List.getElem_cons_succ, List.getElem_cons_zero, List.setIfInBounds_toArray, List.set_cons_zero, List.set_cons_succ]
            refine wpAnyH_ready (rs := [2, 9]) (by kernel_rfl) (by simp) ?_
            refine AllReadyH.cons rfl (fun K hK => ?_) ?_
            · go_simp
              go_at_call 19
              with_reducible refine (iadd_e _ _ _ _ p q p' q' S1 S2 _ HS1.out HS2.out B4 B5 B6 B7 HP.out.1 HP.out.2 sp sq sp' sq').mono ?_
              rintro e x9 ⟨p0, q0, rfl, C0, D0, b9⟩
              try dsimp only
              refine hK.out _ _ ?_ (fun hHeld => ?_)
              · (try dsimp only); exact ⟨(B0.below b9 B0.lt).cell0, (B0.below b9 B0.lt).cell1, (B0.below b9 B0.lt).cell2, (B0.below b9 B0.lt).cell3, (B0.below b9 B0.lt).cell4, (B0.below b9 B0.lt).cell5, (B1.below b9 B1.lt).cell0, (B1.below b9 B1.lt).cell1, (B1.below b9 B1.lt).cell2, (B1.below b9 B1.lt).cell3, (B1.below b9 B1.lt).cell4, (B1.below b9 B1.lt).cell5⟩
              · exact ih (true, false, true, 1) (by decide) _ _ ⟨⟨B0.below b9 B0.lt, B1.below b9 B1.lt, B2.below b9 B2.lt, B3.below b9 B3.lt, B4.below b9, B5.below b9, B6.below b9, B7.below b9, B8.below b9, B9.below b9, B10.below b9, B11.below b9, below_then B12 (Nat.le_refl _) b9⟩, h0, h2, p0, q0, rfl, Z0.below b9 Z0.lt, G0, N0_0, N0_1, N0_2, N0_3, Z2.below b9 Z2.lt, G2, N2_0, N2_1, N2_2, N2_3, M0_2, C0, D0⟩
            refine AllReadyH.cons rfl (fun K hK => ?_) ?_
            · go_simp
              refine hK.out _ _ ?_ (fun hHeld => ?_)
              · (try dsimp only); exact ⟨(B0.alloc EV0).cell0, (B0.alloc EV0).cell1, (B0.alloc EV0).cell2, (B0.alloc EV0).cell3, (B0.alloc EV0).cell4, (B0.alloc EV0).cell5, (B1.alloc EV0).cell0, (B1.alloc EV0).cell1, (B1.alloc EV0).cell2, (B1.alloc EV0).cell3, (B1.alloc EV0).cell4, (B1.alloc EV0).cell5⟩
              · exact ih (true, true, true, 0) (by decide) _ _ ⟨⟨B0.alloc EV0, B1.alloc EV0, B2.alloc EV0, B3.alloc EV0, B4.alloc EV0, B5.alloc EV0, B6.alloc EV0, B7.alloc EV0, B8.alloc EV0, B9.alloc EV0, B10.alloc EV0, B11.alloc EV0, B12.alloc B12.size EV0⟩, h0, _, h2, rfl, Z0.alloc EV0, G0, N0_0, N0_1, N0_2, N0_3, S6.new w' (.bool false) (.slice none 0 0) (.slice none 0 0) (.bool false) (.slice none 0 0) (.slice none 0 0), B12.size, Nat.ne_of_lt B0.lt, Nat.ne_of_lt B1.lt, Nat.ne_of_lt B2.lt, Nat.ne_of_lt B3.lt, Nat.ne_of_lt Z0.lt, Z2.alloc EV0, G2, N2_0, N2_1, N2_2, N2_3, M0_2, Nat.ne_of_gt Z2.lt⟩
            exact AllReadyH.nil
          · obtain ⟨⟨B0, B1, B2, B3, B4, B5, B6, B7, B8, B9, B10, B11, B12⟩, h0, h2, p0, q0, rfl, Z0, G0, N0_0, N0_1, N0_2, N0_3, Z2, G2, N2_0, N2_1, N2_2, N2_3, M0_2, C0, D0⟩ := hI
            change wpAnyH _ _ _ _ _ (5 + 1) #[true, true, true, true, true, false, true, false, true, false, true, false, false, false] _ _
            try simp only [Act.put, List.getElem_toArray, List.getElem_cons_succ, List.getElem_cons_zero, List.setIfInBounds_toArray, List.set_cons_zero, List.set_cons_succ]
            refine wpAnyH_ready (rs := [5, 9]) (by kernel_rfl) (by simp) ?_
            refine AllReadyH.cons rfl (fun K hK => ?_) ?_
            · go_simp
              go_at_call 29
              with_reducible refine (imul_e _ _ _ _ p q p' q' zA1 zB1 _ HA1.out HB1.out B4 B5 B6 B7 HP.out.1 HP.out.2 sp sq sp' sq').mono ?_
              rintro e x9 ⟨p1, q1, rfl, C1, D1, b9⟩
              try dsimp only
              refine hK.out _ _ ?_ (fun hHeld => ?_)
              · (try dsimp only); exact ⟨(B0.below b9 B0.lt).cell0, (B0.below b9 B0.lt).cell1, (B0.below b9 B0.lt).cell2, (B0.below b9 B0.lt).cell3, (B0.below b9 B0.lt).cell4, (B0.below b9 B0.lt).cell5, (B1.below b9 B1.lt).cell0, (B1.below b9 B1.lt).cell1, (B1.below b9 B1.lt).cell2, (B1.below b9 B1.lt).cell3, (B1.below b9 B1.lt).cell4, (B1.below b9 B1.lt).cell5⟩
              · exact ih (true, false, true, 2) (by decide) _ _ ⟨⟨B0.below b9 B0.lt, B1.below b9 B1.lt, B2.below b9 B2.lt, B3.below b9 B3.lt, B4.below b9, B5.below b9, B6.below b9, B7.below b9, B8.below b9, B9.below b9, B10.below b9, B11.below b9, below_then B12 (Nat.le_refl _) b9⟩, h0, h2, p0, q0, p1, q1, rfl, Z0.below b9 Z0.lt, G0, N0_0, N0_1, N0_2, N0_3, Z2.below b9 Z2.lt, G2, N2_0, N2_1, N2_2, N2_3, M0_2, C0.below b9, D0.below b9, C1, D1⟩
            refine AllReadyH.cons rfl (fun K hK => ?_) ?_
            · go_simp
              refine hK.out _ _ ?_ (fun hHeld => ?_)
              · (try dsimp only); exact ⟨(B0.alloc EV0).cell0, (B0.alloc EV0).cell1, (B0.alloc EV0).cell2, (B0.alloc EV0).cell3, (B0.alloc EV0).cell4, (B0.alloc EV0).cell5, (B1.alloc EV0).cell0, (B1.alloc EV0).cell1, (B1.alloc EV0).cell2, (B1.alloc EV0).cell3, (B1.alloc EV0).cell4, (B1.alloc EV0).cell5⟩
              · exact ih (true, true, true, 1) (by decide) _ _ ⟨⟨B0.alloc EV0, B1.alloc EV0, B2.alloc EV0, B3.alloc EV0, B4.alloc EV0, B5.alloc EV0, B6.alloc EV0, B7.alloc EV0, B8.alloc EV0, B9.alloc EV0, B10.alloc EV0, B11.alloc EV0, B12.alloc B12.size EV0⟩, h0, _, h2, p0, q0, rfl, Z0.alloc EV0, G0, N0_0, N0_1, N0_2, N0_3, S6.new w' (.bool false) (.slice none 0 0) (.slice none 0 0) (.bool false) (.slice none 0 0) (.slice none 0 0), B12.size, Nat.ne_of_lt B0.lt, Nat.ne_of_lt B1.lt, Nat.ne_of_lt B2.lt, Nat.ne_of_lt B3.lt, Nat.ne_of_lt Z0.lt, Z2.alloc EV0, G2, N2_0, N2_1, N2_2, N2_3, M0_2, Nat.ne_of_gt Z2.lt, C0.alloc EV0, D0.alloc EV0⟩
            exact AllReadyH.nil
          · obtain ⟨⟨B0, B1, B2, B3, B4, B5, B6, B7, B8, B9, B10, B11, B12⟩, h0, h2, p0, q0, p1, q1, rfl, Z0, G0, N0_0, N0_1, N0_2, N0_3, Z2, G2, N2_0, N2_1, N2_2, N2_3, M0_2, C0, D0, C1, D1⟩ := hI
            change wpAnyH _ _ _ _ _ (4 + 1) #[true, true, true, true, true, true, true, false, true, false, true, false, false, false] _ _
            try simp only [Act.put, List.getElem_toArray, List.getElem_cons_succ, List.getElem_cons_zero, List.setIfInBounds_toArray, List.set_cons_zero, List.set_cons_succ]
            refine wpAnyH_ready (rs := [7, 9]) (by kernel_rfl) (by simp) ?_
            refine AllReadyH.cons rfl (fun K hK => ?_) ?_
            · go_simp
              go_at_call 30
              with_reducible refine (irelu_e _ _ p q R1 R2 _ HR1.out HR2.out B4 B5 HP.out.1 sp sq).mono ?_
              rintro e x9 ⟨p2, q2, rfl, C2, D2, b9⟩
              try dsimp only
              refine hK.out _ _ ?_ (fun hHeld => ?_)
              · (try dsimp only); exact ⟨(B0.below b9 B0.lt).cell0, (B0.below b9 B0.lt).cell1, (B0.below b9 B0.lt).cell2, (B0.below b9 B0.lt).cell3, (B0.below b9 B0.lt).cell4, (B0.below b9 B0.lt).cell5, (B1.below b9 B1.lt).cell0, (B1.below b9 B1.lt).cell1, (B1.below b9 B1.lt).cell2, (B1.below b9 B1.lt).cell3, (B1.below b9 B1.lt).cell4, (B1.below b9 B1.lt).cell5⟩
              · exact ih (true, false, true, 3) (by decide) _ _ ⟨⟨B0.below b9 B0.lt, B1.below b9 B1.lt, B2.below b9 B2.lt, B3.below b9 B3.lt, B4.below b9, B5.below b9, B6.below b9, B7.below b9, B8.below b9, B9.below b9, B10.below b9, B11.below b9, below_then B12 (Nat.le_refl _) b9⟩, h0, h2, p0, q0, p1, q1, p2, q2, rfl, Z0.below b9 Z0.lt, G0, N0_0, N0_1, N0_2, N0_3, Z2.below b9 Z2.lt, G2, N2_0, N2_1, N2_2, N2_3, M0_2, C0.below b9, D0.below b9, C1.below b9, D1.below b9, C2, D2⟩
            refine AllReadyH.cons rfl (fun K hK => ?_) ?_
            · go_simp
              refine hK.out _ _ ?_ (fun hHeld => ?_)
              · (try dsimp only); exact ⟨(B0.alloc EV0).cell0, (B0.alloc EV0).cell1, (B0.alloc EV0).cell2, (B0.alloc EV0).cell3, (B0.alloc EV0).cell4, (B0.alloc EV0).cell5, (B1.alloc EV0).cell0, (B1.alloc EV0).cell1, (B1.alloc EV0).cell2, (B1.alloc EV0).cell3, (B1.alloc EV0).cell4, (B1.alloc EV0).cell5⟩
              · exact ih (true, true, true, 2) (by decide) _ _ ⟨⟨B0.alloc EV0, B1.alloc EV0, B2.alloc EV0, B3.alloc EV0, B4.alloc EV0, B5.alloc EV0, B6.alloc EV0, B7.alloc EV0, B8.alloc EV0, B9.alloc EV0, B10.alloc EV0, B11.alloc EV0, B12.alloc B12.size EV0⟩, h0, _, h2, p0, q0, p1, q1, rfl, Z0.alloc EV0, G0, N0_0, N0_1, N0_2, N0_3, S6.new w' (.bool false) (.slice none 0 0) (.slice none 0 0) (.bool false) (.slice none 0 0) (.slice none 0 0), B12.size, Nat.ne_of_lt B0.lt, Nat.ne_of_lt B1.lt, Nat.ne_of_lt B2.lt, Nat.ne_of_lt B3.lt, Nat.ne_of_lt Z0.lt, Z2.alloc EV0, G2, N2_0, N2_1, N2_2, N2_3, M0_2, Nat.ne_of_gt Z2.lt, C0.alloc EV0, D0.alloc EV0, C1.alloc EV0, D1.alloc EV0⟩
            exact AllReadyH.nil
          · obtain ⟨⟨B0, B1, B2, B3, B4, B5, B6, B7, B8, B9, B10, B11, B12⟩, h0, h2, p0, q0, p1, q1, p2, q2, rfl, Z0, G0, N0_0, N0_1, N0_2, N0_3, Z2, G2, N2_0, N2_1, N2_2, N2_3, M0_2, C0, D0, C1, D1, C2, D2⟩ := hI
            change wpAnyH _ _ _ _ _ (3 + 1) #[true, true, true, true, true, true, true, true, true, false, true, false, false, false] _ _
            try simp only [Act.put, List.getElem_toArray, List.getElem_cons_succ, List.getElem_cons_zero, List.setIfInBounds_toArray, List.set_cons_zero, List.set_cons_succ]
            refine wpAnyH_ready (rs := [9]) (by kernel_rfl) (by simp) ?_
            refine AllReadyH.cons rfl (fun K hK => ?_) ?_
            · go_simp
              refine hK.out _ _ ?_ (fun hHeld => ?_)
              · (try dsimp only); exact ⟨(B0.alloc EV0).cell0, (B0.alloc EV0).cell1, (B0.alloc EV0).cell2, (B0.alloc EV0).cell3, (B0.alloc EV0).cell4, (B0.alloc EV0).cell5, (B1.alloc EV0).cell0, (B1.alloc EV0).cell1, (B1.alloc EV0).cell2, (B1.alloc EV0).cell3, (B1.alloc EV0).cell4, (B1.alloc EV0).cell5⟩
              · exact ih (true, true, true, 3) (by decide) _ _ ⟨⟨B0.alloc EV0, B1.alloc EV0, B2.alloc EV0, B3.alloc EV0, B4.alloc EV0, B5.alloc EV0, B6.alloc EV0, B7.alloc EV0, B8.alloc EV0, B9.alloc EV0, B10.alloc EV0, B11.alloc EV0, B12.alloc B12.size EV0⟩, h0, _, h2, p0, q0, p1, q1, p2, q2, rfl, Z0.alloc EV0, G0, N0_0, N0_1, N0_2, N0_3, S6.new w' (.bool false) (.slice none 0 0) (.slice none 0 0) (.bool false) (.slice none 0 0) (.slice none 0 0), B12.size, Nat.ne_of_lt B0.lt, Nat.ne_of_lt B1.lt, Nat.ne_of_lt B2.lt, Nat.ne_of_lt B3.lt, Nat.ne_of_lt Z0.lt, Z2.alloc EV0, G2, N2_0, N2_1, N2_2, N2_3, M0_2, Nat.ne_of_gt Z2.lt, C0.alloc EV0, D0.alloc EV0, C1.alloc EV0, D1.alloc EV0, C2.alloc EV0, D2.alloc EV0⟩
            exact AllReadyH.nil
          · exact hI.2.elim
      · rcases t2 with _ | _
        · rcases c with _ | _ | _ | _ | c
          · obtain ⟨⟨B0, B1, B2, B3, B4, B5, B6, B7, B8, B9, B10, B11, B12⟩, h0, h1, rfl, Z0, G0, N0_0, N0_1, N0_2, N0_3, Z1, G1, N1_0, N1_1, N1_2, N1_3, M0_1⟩ := hI
            change wpAnyH _ _ _ _ _ (6 + 1) #[true, true, false, true, true, false, true, false, true, true, false, false, false, false] _ _
            try simp only [Act.put, List.getElem_toArray, List.getElem_cons_succ, List.getElem_cons_zero, List.setIfInBounds_toArray, List.set_cons_zero, List.set_cons_succ]
            refine wpAnyH_ready (rs := [2, 10]) (by kernel_rfl) (by simp) ?_
            refine AllReadyH.cons rfl (fun K hK => ?_) ?_
            · go_simp
              go_at_call 19
              with_reducible refine (iadd_e _ _ _ _ p q p' q' S1 S2 _ HS1.out HS2.out B4 B5 B6 B7 HP.out.1 HP.out.2 sp sq sp' sq').mono ?_
              rintro e x9 ⟨p0, q0, rfl, C0, D0, b9⟩
              try dsimp only
              refine hK.out _ _ ?_ (fun hHeld => ?_)
              · (try dsimp only); exact ⟨(B0.below b9 B0.lt).cell0, (B0.below b9 B0.lt).cell1, (B0.below b9 B0.lt).cell2, (B0.below b9 B0.lt).cell3, (B0.below b9 B0.lt).cell4, (B0.below b9 B0.lt).cell5, (B1.below b9 B1.lt).cell0, (B1.below b9 B1.lt).cell1, (B1.below b9 B1.lt).cell2, (B1.below b9 B1.lt).cell3, (B1.below b9 B1.lt).cell4, (B1.below b9 B1.lt).cell5⟩
              · exact ih (true, true, false, 1) (by decide) _ _ ⟨⟨B0.below b9 B0.lt, B1.below b9 B1.lt, B2.below b9 B2.lt, B3.below b9 B3.lt, B4.below b9, B5.below b9, B6.below b9, B7.below b9, B8.below b9, B9.below b9, B10.below b9, B11.below b9, below_then B12 (Nat.le_refl _) b9⟩, h0, h1, p0, q0, rfl, Z0.below b9 Z0.lt, G0, N0_0, N0_1, N0_2, N0_3, Z1.below b9 Z1.lt, G1, N1_0, N1_1, N1_2, N1_3, M0_1, C0, D0⟩
            refine AllReadyH.cons rfl (fun K hK => ?_) ?_
            · go_simp
              refine hK.out _ _ ?_ (fun hHeld => ?_)
              · (try dsimp only); exact ⟨(B0.alloc EV0).cell0, (B0.alloc EV0).cell1, (B0.alloc EV0).cell2, (B0.alloc EV0).cell3, (B0.alloc EV0).cell4, (B0.alloc EV0).cell5, (B1.alloc EV0).cell0, (B1.alloc EV0).cell1, (B1.alloc EV0).cell2, (B1.alloc EV0).cell3, (B1.alloc EV0).cell4, (B1.alloc EV0).cell5⟩
              · exact ih (true, true, true, 0) (by decide) _ _ ⟨⟨B0.alloc EV0, B1.alloc EV0, B2.alloc EV0, B3.alloc EV0, B4.alloc EV0, B5.alloc EV0, B6.alloc EV0, B7.alloc EV0, B8.alloc EV0, B9.alloc EV0, B10.alloc EV0, B11.alloc EV0, B12.alloc B12.size EV0⟩, h0, h1, _, rfl, Z0.alloc EV0, G0, N0_0, N0_1, N0_2, N0_3, Z1.alloc EV0, G1, N1_0, N1_1, N1_2, N1_3, M0_1, S6.new w' (.bool false) (.slice none 0 0) (.slice none 0 0) (.bool false) (.slice none 0 0) (.slice none 0 0), B12.size, Nat.ne_of_lt B0.lt, Nat.ne_of_lt B1.lt, Nat.ne_of_lt B2.lt, Nat.ne_of_lt B3.lt, Nat.ne_of_lt Z0.lt, Nat.ne_of_lt Z1.lt⟩
            exact AllReadyH.nil
          · obtain ⟨⟨B0, B1, B2, B3, B4, B5, B6, B7, B8, B9, B10, B11, B12⟩, h0, h1, p0, q0, rfl, Z0, G0, N0_0, N0_1, N0_2, N0_3, Z1, G1, N1_0, N1_1, N1_2, N1_3, M0_1, C0, D0⟩ := hI
            change wpAnyH _ _ _ _ _ (5 + 1) #[true, true, true, true, true, false, true, false, true, true, false, false, false, false] _ _
            try simp only [Act.put, List.getElem_toArray, List.getElem_cons_succ, List.getElem_cons_zero, List.setIfInBounds_toArray, List.set_cons_zero, List.set_cons_succ]
            refine wpAnyH_ready (rs := [5, 10]) (by kernel_rfl) (by simp) ?_
            refine AllReadyH.cons rfl (fun K hK => ?_) ?_
            · go_simp
              go_at_call 29
              with_reducible refine (imul_e _ _ _ _ p q p' q' zA1 zB1 _ HA1.out HB1.out B4 B5 B6 B7 HP.out.1 HP.out.2 sp sq sp' sq').mono ?_
              rintro e x9 ⟨p1, q1, rfl, C1, D1, b9⟩
              try dsimp only
              refine hK.out _ _ ?_ (fun hHeld => ?_)
              · (try dsimp only); exact ⟨(B0.below b9 B0.lt).cell0, (B0.below b9 B0.lt).cell1, (B0.below b9 B0.lt).cell2, (B0.below b9 B0.lt).cell3, (B0.below b9 B0.lt).cell4, (B0.below b9 B0.lt).cell5, (B1.below b9 B1.lt).cell0, (B1.below b9 B1.lt).cell1, (B1.below b9 B1.lt).cell2, (B1.below b9 B1.lt).cell3, (B1.below b9 B1.lt).cell4, (B1.below b9 B1.lt).cell5⟩
              · exact ih (true, true, false, 2) (by decide) _ _ ⟨⟨B0.below b9 B0.lt, B1.below b9 B1.lt, B2.below b9 B2.lt, B3.below b9 B3.lt, B4.below b9, B5.below b9, B6.below b9, B7.below b9, B8.below b9, B9.below b9, B10.below b9, B11.below b9, below_then B12 (Nat.le_refl _) b9⟩, h0, h1, p0, q0, p1, q1, rfl, Z0.below b9 Z0.lt, G0, N0_0, N0_1, N0_2, N0_3, Z1.below b9 Z1.lt, G1, N1_0, N1_1, N1_2, N1_3, M0_1, C0.below b9, D0.below b9, C1, D1⟩
            refine AllReadyH.cons rfl (fun K hK => ?_) ?_
            · go_simp
              refine hK.out _ _ ?_ (fun hHeld => ?_)
              · (try dsimp only); exact ⟨(B0.alloc EV0).cell0, (B0.alloc EV0).cell1, (B0.alloc EV0).cell2, (B0.alloc EV0).cell3, (B0.alloc EV0).cell4, (B0.alloc EV0).cell5, (B1.alloc EV0).cell0, (B1.alloc EV0).cell1, (B1.alloc EV0).cell2, (B1.alloc EV0).cell3, (B1.alloc EV0).cell4, (B1.alloc EV0).cell5⟩
              · exact ih (true, true, true, 1) (by decide) _ _ ⟨⟨B0.alloc EV0, B1.alloc EV0, B2.alloc EV0, B3.alloc EV0, B4.alloc EV0, B5.alloc EV0, B6.alloc EV0, B7.alloc EV0, B8.alloc EV0, B9.alloc EV0, B10.alloc EV0, B11.alloc EV0, B12.alloc B12.size EV0⟩, h0, h1, _, p0, q0, rfl, Z0.alloc EV0, G0, N0_0, N0_1, N0_2, N0_3, Z1.alloc EV0, G1, N1_0, N1_1, N1_2, N1_3, M0_1, S6.new w' (.bool false) (.slice none 0 0) (.slice none 0 0) (.bool false) (.slice none 0 0) (.slice none 0 0), B12.size, Nat.ne_of_lt B0.lt, Nat.ne_of_lt B1.lt, Nat.ne_of_lt B2.lt, Nat.ne_of_lt B3.lt, Nat.ne_of_lt Z0.lt, Nat.ne_of_lt Z1.lt, C0.alloc EV0, D0.alloc EV0⟩
            exact AllReadyH.nil
          · obtain ⟨⟨B0, B1, B2, B3, B4, B5, B6, B7, B8, B9, B10, B11, B12⟩, h0, h1, p0, q0, p1, q1, rfl, Z0, G0, N0_0, N0_1, N0_2, N0_3, Z1, G1, N1_0, N1_1, N1_2, N1_3, M0_1, C0, D0, C1, D1⟩ := hI
            change wpAnyH _ _ _ _ _ (4 + 1) #[true, true, true, true, true, true, true, false, true, true, false, false, false, false] _ _
            try simp only [Act.put, List.getElem_toArray, List.getElem_cons_succ, List.getElem_cons_zero, List.setIfInBounds_toArray, List.set_cons_zero, List.set_cons_succ]
            refine wpAnyH_ready (rs := [7, 10]) (by kernel_rfl) (by simp) ?_
            refine AllReadyH.cons rfl (fun K hK => ?_) ?_
            · go_simp
              go_at_call 30
              with_reducible refine (irelu_e _ _ p q R1 R2 _ HR1.out HR2.out B4 B5 HP.out.1 sp sq).mono ?_
              rintro e x9 ⟨p2, q2, rfl, C2, D2, b9⟩
              try dsimp only
              refine hK.out _ _ ?_ (fun hHeld => ?_)
              · (try dsimp only); exact ⟨(B0.below b9 B0.lt).cell0, (B0.below b9 B0.lt).cell1, (B0.below b9 B0.lt).cell2, (B0.below b9 B0.lt).cell3, (B0.below b9 B0.lt).cell4, (B0.below b9 B0.lt).cell5, (B1.below b9 B1.lt).cell0, (B1.below b9 B1.lt).cell1, (B1.below b9 B1.lt).cell2, (B1.below b9 B1.lt).cell3, (B1.below b9 B1.lt).cell4, (B1.below b9 B1.lt).cell5⟩
              · exact ih (true, true, false, 3) (by decide) _ _ ⟨⟨B0.below b9 B0.lt, B1.below b9 B1.lt, B2.below b9 B2.lt, B3.below b9 B3.lt, B4.below b9, B5.below b9, B6.below b9, B7.below b9, B8.below b9, B9.below b9, B10.below b9, B11.below b9, below_then B12 (Nat.le_refl _) b9⟩, h0, h1, p0, q0, p1, q1, p2, q2, rfl, Z0.below b9 Z0.lt, G0, N0_0, N0_1, N0_2, N0_3, Z1.below b9 Z1.lt, G1, N1_0, N1_1, N1_2, N1_3, M0_1, C0.below b9, D0.below b9, C1.below b9, D1.below b9, C2, D2⟩
            refine AllReadyH.cons rfl (fun K hK => ?_) ?_
            · go_simp
              refine hK.out _ _ ?_ (fun hHeld => ?_)
              · (try dsimp only); exact ⟨(B0.alloc EV0).cell0, (B0.alloc EV0).cell1, (B0.alloc EV0).cell2, (B0.alloc EV0).cell3, (B0.alloc EV0).cell4, (B0.alloc EV0).cell5, (B1.alloc EV0).cell0, (B1.alloc EV0).cell1, (B1.alloc EV0).cell2, (B1.alloc EV0).cell3, (B1.alloc EV0).cell4, (B1.alloc EV0).cell5⟩
              · exact ih (true, true, true, 2) (by decide) _ _ ⟨⟨B0.alloc EV0, B1.alloc EV0, B2.alloc EV0, B3.alloc EV0, B4.alloc EV0, B5.alloc EV0, B6.alloc EV0, B7.alloc EV0, B8.alloc EV0, B9.alloc EV0, B10.alloc EV0, B11.alloc EV0, B12.alloc B12.size EV0⟩, h0, h1, _, p0, q0, p1, q1, rfl, Z0.alloc EV0, G0, N0_0, N0_1, N0_2, N0_3, Z1.alloc EV0, G1, N1_0, N1_1, N1_2, N1_3, M0_1, S6.new w' (.bool false) (.slice none 0 0) (.slice none 0 0) (.bool false) (.slice none 0 0) (.slice none 0 0), B12.size, Nat.ne_of_lt B0.lt, Nat.ne_of_lt B1.lt, Nat.ne_of_lt B2.lt, Nat.ne_of_lt B3.lt, Nat.ne_of_lt Z0.lt, Nat.ne_of_lt Z1.lt, C0.alloc EV0, D0.alloc EV0, C1.alloc EV0, D1.alloc EV0⟩
            exact AllReadyH.nil
          · obtain ⟨⟨B0, B1, B2, B3, B4, B5, B6, B7, B8, B9, B10, B11, B12⟩, h0, h1, p0, q0, p1, q1, p2, q2, rfl, Z0, G0, N0_0, N0_1, N0_2, N0_3, Z1, G1, N1_0, N1_1, N1_2, N1_3, M0_1, C0, D0, C1, D1, C2, D2⟩ := hI
            change wpAnyH _ _ _ _ _ (3 + 1) #[true, true, true, true, true, true, true, true, true, true, false, false, false, false] _ _
            try simp only [Act.put, List.getElem_toArray, List.getElem_cons_succ, List.getElem_cons_zero, List.setIfInBounds_toArray, List.set_cons_zero, List.set_cons_succ]
            refine wpAnyH_ready (rs := [10]) (by kernel_rfl) (by simp) ?_
            refine AllReadyH.cons rfl (fun K hK => ?_) ?_
            · go_simp
              refine hK.out _ _ ?_ (fun hHeld => ?_)
              · (try dsimp only); exact ⟨(B0.alloc EV0).cell0, (B0.alloc EV0).cell1, (B0.alloc EV0).cell2, (B0.alloc EV0).cell3, (B0.alloc EV0).cell4, (B0.alloc EV0).cell5, (B1.alloc EV0).cell0, (B1.alloc EV0).cell1, (B1.alloc EV0).cell2, (B1.alloc EV0).cell3, (B1.alloc EV0).cell4, (B1.alloc EV0).cell5⟩
              · exact ih (true, true, true, 3) (by decide) _ _ ⟨⟨B0.alloc EV0, B1.alloc EV0, B2.alloc EV0, B3.alloc EV0, B4.alloc EV0, B5.alloc EV0, B6.alloc EV0, B7.alloc EV0, B8.alloc EV0, B9.alloc EV0, B10.alloc EV0, B11.alloc EV0, B12.alloc B12.size EV0⟩, h0, h1, _, p0, q0, p1, q1, p2, q2, rfl, Z0.alloc EV0, G0, N0_0, N0_1, N0_2, N0_3, Z1.alloc EV0, G1, N1_0, N1_1, N1_2, N1_3, M0_1, S6.new w' (.bool false) (.slice none 0 0) (.slice none 0 0) (.bool false) (.slice none 0 0) (.slice none 0 0), B12.size, Nat.ne_of_lt B0.lt, Nat.ne_of_lt B1.lt, Nat.ne_of_lt B2.lt, Nat.ne_of_lt B3.lt, Nat.ne_of_lt Z0.lt, Nat.ne_of_lt Z1.lt, C0.alloc EV0, D0.alloc EV0, C1.alloc EV0, D1.alloc EV0, C2.alloc EV0, D2.alloc EV0⟩
            exact AllReadyH.nil
          · exact hI.2.elim
        · rcases c with _ | _ | _ | _ | c
          · obtain ⟨⟨B0, B1, B2, B3, B4, B5, B6, B7, B8, B9, B10, B11, B12⟩, h0, h1, h2, rfl, Z0, G0, N0_0, N0_1, N0_2, N0_3, Z1, G1, N1_0, N1_1, N1_2, N1_3, M0_1, Z2, G2, N2_0, N2_1, N2_2, N2_3, M0_2, M1_2⟩ := hI
            change wpAnyH _ _ _ _ _ (5 + 1) #[true, true, false, true, true, false, true, false, true, true, true, false, false, false] _ _
            try simp only [Act.put, List.getElem_toArray, List.getElem_cons_succ, List.getElem_cons_zero, List.setIfInBounds_toArray, List.set_cons_zero, List.set_cons_succ]
            refine wpAnyH_ready (rs := [2]) (by kernel_rfl) (by simp) ?_
            refine AllReadyH.cons rfl (fun K hK => ?_) ?_
            · go_simp
              go_at_call 19
              with_reducible refine (iadd_e _ _ _ _ p q p' q' S1 S2 _ HS1.out HS2.out B4 B5 B6 B7 HP.out.1 HP.out.2 sp sq sp' sq').mono ?_
              rintro e x9 ⟨p0, q0, rfl, C0, D0, b9⟩
              try dsimp only
              refine hK.out _ _ ?_ (fun hHeld => ?_)
              · (try dsimp only); exact ⟨(B0.below b9 B0.lt).cell0, (B0.below b9 B0.lt).cell1, (B0.below b9 B0.lt).cell2, (B0.below b9 B0.lt).cell3, (B0.below b9 B0.lt).cell4, (B0.below b9 B0.lt).cell5, (B1.below b9 B1.lt).cell0, (B1.below b9 B1.lt).cell1, (B1.below b9 B1.lt).cell2, (B1.below b9 B1.lt).cell3, (B1.below b9 B1.lt).cell4, (B1.below b9 B1.lt).cell5⟩
              · exact ih (true, true, true, 1) (by decide) _ _ ⟨⟨B0.below b9 B0.lt, B1.below b9 B1.lt, B2.below b9 B2.lt, B3.below b9 B3.lt, B4.below b9, B5.below b9, B6.below b9, B7.below b9, B8.below b9, B9.below b9, B10.below b9, B11.below b9, below_then B12 (Nat.le_refl _) b9⟩, h0, h1, h2, p0, q0, rfl, Z0.below b9 Z0.lt, G0, N0_0, N0_1, N0_2, N0_3, Z1.below b9 Z1.lt, G1, N1_0, N1_1, N1_2, N1_3, M0_1, Z2.below b9 Z2.lt, G2, N2_0, N2_1, N2_2, N2_3, M0_2, M1_2, C0, D0⟩
            exact AllReadyH.nil
          · obtain ⟨⟨B0, B1, B2, B3, B4, B5, B6, B7, B8, B9, B10, B11, B12⟩, h0, h1, h2, p0, q0, rfl, Z0, G0, N0_0, N0_1, N0_2, N0_3, Z1, G1, N1_0, N1_1, N1_2, N1_3, M0_1, Z2, G2, N2_0, N2_1, N2_2, N2_3, M0_2, M1_2, C0, D0⟩ := hI
            change wpAnyH _ _ _ _ _ (4 + 1) #[true, true, true, true, true, false, true, false, true, true, true, false, false, false] _ _
            try simp only [Act.put, List.getElem_toArray, List.getElem_cons_succ, List.getElem_cons_zero, List.setIfInBounds_toArray, List.set_cons_zero, List.set_cons_succ]
            refine wpAnyH_ready (rs := [5]) (by kernel_rfl) (by simp) ?_
            refine AllReadyH.cons rfl (fun K hK => ?_) ?_
            · go_simp
              go_at_call 29
              with_reducible refine (imul_e _ _ _ _ p q p' q' zA1 zB1 _ HA1.out HB1.out B4 B5 B6 B7 HP.out.1 HP.out.2 sp sq sp' sq').mono ?_
              rintro e x9 ⟨p1, q1, rfl, C1, D1, b9⟩
              try dsimp only
              refine hK.out _ _ ?_ (fun hHeld => ?_)
              · (try dsimp only); exact ⟨(B0.below b9 B0.lt).cell0, (B0.below b9 B0.lt).cell1, (B0.below b9 B0.lt).cell2, (B0.below b9 B0.lt).cell3, (B0.below b9 B0.lt).cell4, (B0.below b9 B0.lt).cell5, (B1.below b9 B1.lt).cell0, (B1.below b9 B1.lt).cell1, (B1.below b9 B1.lt).cell2, (B1.below b9 B1.lt).cell3, (B1.below b9 B1.lt).cell4, (B1.below b9 B1.lt).cell5⟩
              · exact ih (true, true, true, 2) (by decide) _ _ ⟨⟨B0.below b9 B0.lt, B1.below b9 B1.lt, B2.below b9 B2.lt, B3.below b9 B3.lt, B4.below b9, B5.below b9, B6.below b9, B7.below b9, B8.below b9, B9.below b9, B10.below b9, B11.below b9, below_then B12 (Nat.le_refl _) b9⟩, h0, h1, h2, p0, q0, p1, q1, rfl, Z0.below b9 Z0.lt, G0, N0_0, N0_1, N0_2, N0_3, Z1.below b9 Z1.lt, G1, N1_0, N1_1, N1_2, N1_3, M0_1, Z2.below b9 Z2.lt, G2, N2_0, N2_1, N2_2, N2_3, M0_2, M1_2, C0.below b9, D0.below b9, C1, D1⟩
            exact AllReadyH.nil
          · obtain ⟨⟨B0, B1, B2, B3, B4, B5, B6, B7, B8, B9, B10, B11, B12⟩, h0, h1, h2, p0, q0, p1, q1, rfl, Z0, G0, N0_0, N0_1, N0_2, N0_3, Z1, G1, N1_0, N1_1, N1_2, N1_3, M0_1, Z2, G2, N2_0, N2_1, N2_2, N2_3, M0_2, M1_2, C0, D0, C1, D1⟩ := hI
            change wpAnyH _ _ _ _ _ (3 + 1) #[true, true, true, true, true, true, true, false, true, true, true, false, false, false] _ _
            try simp only [Act.put, List.getElem_toArray, List.getElem_cons_succ, List.getElem_cons_zero, List.setIfInBounds_toArray, List.set_cons_zero, List.set_cons_succ]
            refine wpAnyH_ready (rs := [7]) (by kernel_rfl) (by simp) ?_
            refine AllReadyH.cons rfl (fun K hK => ?_) ?_
            · go_simp
              go_at_call 30
              with_reducible refine (irelu_e _ _ p q R1 R2 _ HR1.out HR2.out B4 B5 HP.out.1 sp sq).mono ?_
              rintro e x9 ⟨p2, q2, rfl, C2, D2, b9⟩
              try dsimp only
              refine hK.out _ _ ?_ (fun hHeld => ?_)
              · (try dsimp only); exact ⟨(B0.below b9 B0.lt).cell0, (B0.below b9 B0.lt).cell1, (B0.below b9 B0.lt).cell2, (B0.below b9 B0.lt).cell3, (B0.below b9 B0.lt).cell4, (B0.below b9 B0.lt).cell5, (B1.below b9 B1.lt).cell0, (B1.below b9 B1.lt).cell1, (B1.below b9 B1.lt).cell2, (B1.below b9 B1.lt).cell3, (B1.below b9 B1.lt).cell4, (B1.below b9 B1.lt).cell5⟩
              · exact ih (true, true, true, 3) (by decide) _ _ ⟨⟨B0.below b9 B0.lt, B1.below b9 B1.lt, B2.below b9 B2.lt, B3.below b9 B3.lt, B4.below b9, B5.below b9, B6.below b9, B7.below b9, B8.below b9, B9.below b9, B10.below b9, B11.below b9, below_then B12 (Nat.le_refl _) b9⟩, h0, h1, h2, p0, q0, p1, q1, p2, q2, rfl, Z0.below b9 Z0.lt, G0, N0_0, N0_1, N0_2, N0_3, Z1.below b9 Z1.lt, G1, N1_0, N1_1, N1_2, N1_3, M0_1, Z2.below b9 Z2.lt, G2, N2_0, N2_1, N2_2, N2_3, M0_2, M1_2, C0.below b9, D0.below b9, C1.below b9, D1.below b9, C2, D2⟩
            exact AllReadyH.nil
          · obtain ⟨⟨B0, B1, B2, B3, B4, B5, B6, B7, B8, B9, B10, B11, B12⟩, h0, h1, h2, p0, q0, p1, q1, p2, q2, rfl, Z0, G0, N0_0, N0_1, N0_2, N0_3, Z1, G1, N1_0, N1_1, N1_2, N1_3, M0_1, Z2, G2, N2_0, N2_1, N2_2, N2_3, M0_2, M1_2, C0, D0, C1, D1, C2, D2⟩ := hI
            change wpAnyH _ _ _ _ _ (2 + 1) _ _ _
            try simp only [Act.put, List.getElem_toArray, List.getElem_cons_succ, List.getElem_cons_zero, List.setIfInBounds_toArray, List.set_cons_zero, List.set_cons_succ]
            refine wpAnyH_ready (rs := [11]) (by kernel_rfl) (by simp) ?_
            refine AllReadyH.cons rfl (fun K hK => ?_) AllReadyH.nil
            have zc0_0 := Z0.cell0
            have zf0_0 := Z0.frozen 0
            have zc0_1 := Z0.cell1
            have zf0_1 := Z0.frozen 1
            have zc0_2 := Z0.cell2
            have zf0_2 := Z0.frozen 2
            have zc0_3 := Z0.cell3
            have zf0_3 := Z0.frozen 3
            have zc0_4 := Z0.cell4
            have zf0_4 := Z0.frozen 4
            have zc0_5 := Z0.cell5
            have zf0_5 := Z0.frozen 5
            go_simp
            have B0_0 := B0.past6 (g' := h0) (u0 := .bool p0.s) (u1 := .slice p0.A p0.n p0.c) (u2 := .slice p0.B p0.m p0.d) (u3 := .bool q0.s) (u4 := .slice q0.A q0.n q0.c) (u5 := .slice q0.B q0.m q0.d) N0_0
            have B1_0 := B1.past6 (g' := h0) (u0 := .bool p0.s) (u1 := .slice p0.A p0.n p0.c) (u2 := .slice p0.B p0.m p0.d) (u3 := .bool q0.s) (u4 := .slice q0.A q0.n q0.c) (u5 := .slice q0.B q0.m q0.d) N0_1
            have B2_0 := B2.past6 (g' := h0) (u0 := .bool p0.s) (u1 := .slice p0.A p0.n p0.c) (u2 := .slice p0.B p0.m p0.d) (u3 := .bool q0.s) (u4 := .slice q0.A q0.n q0.c) (u5 := .slice q0.B q0.m q0.d) N0_2
            have B3_0 := B3.past6 (g' := h0) (u0 := .bool p0.s) (u1 := .slice p0.A p0.n p0.c) (u2 := .slice p0.B p0.m p0.d) (u3 := .bool q0.s) (u4 := .slice q0.A q0.n q0.c) (u5 := .slice q0.B q0.m q0.d) N0_3
            have B4_0 := B4.stor6 Z0 (.bool p0.s) (.slice p0.A p0.n p0.c) (.slice p0.B p0.m p0.d) (.bool q0.s) (.slice q0.A q0.n q0.c) (.slice q0.B q0.m q0.d)
            have B5_0 := B5.stor6 Z0 (.bool p0.s) (.slice p0.A p0.n p0.c) (.slice p0.B p0.m p0.d) (.bool q0.s) (.slice q0.A q0.n q0.c) (.slice q0.B q0.m q0.d)
            have B6_0 := B6.stor6 Z0 (.bool p0.s) (.slice p0.A p0.n p0.c) (.slice p0.B p0.m p0.d) (.bool q0.s) (.slice q0.A q0.n q0.c) (.slice q0.B q0.m q0.d)
            have B7_0 := B7.stor6 Z0 (.bool p0.s) (.slice p0.A p0.n p0.c) (.slice p0.B p0.m p0.d) (.bool q0.s) (.slice q0.A q0.n q0.c) (.slice q0.B q0.m q0.d)
            have B8_0 := B8.stor6 Z0 (.bool p0.s) (.slice p0.A p0.n p0.c) (.slice p0.B p0.m p0.d) (.bool q0.s) (.slice q0.A q0.n q0.c) (.slice q0.B q0.m q0.d)
            have B9_0 := B9.stor6 Z0 (.bool p0.s) (.slice p0.A p0.n p0.c) (.slice p0.B p0.m p0.d) (.bool q0.s) (.slice q0.A q0.n q0.c) (.slice q0.B q0.m q0.d)
            have B10_0 := B10.stor6 Z0 (.bool p0.s) (.slice p0.A p0.n p0.c) (.slice p0.B p0.m p0.d) (.bool q0.s) (.slice q0.A q0.n q0.c) (.slice q0.B q0.m q0.d)
            have B11_0 := B11.stor6 Z0 (.bool p0.s) (.slice p0.A p0.n p0.c) (.slice p0.B p0.m p0.d) (.bool q0.s) (.slice q0.A q0.n q0.c) (.slice q0.B q0.m q0.d)
            have C0_0 := C0.stor6 Z0 (.bool p0.s) (.slice p0.A p0.n p0.c) (.slice p0.B p0.m p0.d) (.bool q0.s) (.slice q0.A q0.n q0.c) (.slice q0.B q0.m q0.d)
            have D0_0 := D0.stor6 Z0 (.bool p0.s) (.slice p0.A p0.n p0.c) (.slice p0.B p0.m p0.d) (.bool q0.s) (.slice q0.A q0.n q0.c) (.slice q0.B q0.m q0.d)
            have C1_0 := C1.stor6 Z0 (.bool p0.s) (.slice p0.A p0.n p0.c) (.slice p0.B p0.m p0.d) (.bool q0.s) (.slice q0.A q0.n q0.c) (.slice q0.B q0.m q0.d)
            have D1_0 := D1.stor6 Z0 (.bool p0.s) (.slice p0.A p0.n p0.c) (.slice p0.B p0.m p0.d) (.bool q0.s) (.slice q0.A q0.n q0.c) (.slice q0.B q0.m q0.d)
            have C2_0 := C2.stor6 Z0 (.bool p0.s) (.slice p0.A p0.n p0.c) (.slice p0.B p0.m p0.d) (.bool q0.s) (.slice q0.A q0.n q0.c) (.slice q0.B q0.m q0.d)
            have D2_0 := D2.stor6 Z0 (.bool p0.s) (.slice p0.A p0.n p0.c) (.slice p0.B p0.m p0.d) (.bool q0.s) (.slice q0.A q0.n q0.c) (.slice q0.B q0.m q0.d)
            have Z1_0 := Z1.past (g' := h0) (u0 := .bool p0.s) (u1 := .slice p0.A p0.n p0.c) (u2 := .slice p0.B p0.m p0.d) (u3 := .bool q0.s) (u4 := .slice q0.A q0.n q0.c) (u5 := .slice q0.B q0.m q0.d) (Ne.symm M0_1)
            have Z2_0 := Z2.past (g' := h0) (u0 := .bool p0.s) (u1 := .slice p0.A p0.n p0.c) (u2 := .slice p0.B p0.m p0.d) (u3 := .bool q0.s) (u4 := .slice q0.A q0.n q0.c) (u5 := .slice q0.B q0.m q0.d) (Ne.symm M0_2)
            have Z0_0 := Z0.stor (u0 := .bool p0.s) (u1 := .slice p0.A p0.n p0.c) (u2 := .slice p0.B p0.m p0.d) (u3 := .bool q0.s) (u4 := .slice q0.A q0.n q0.c) (u5 := .slice q0.B q0.m q0.d)
            have B12_0 := below_six (u0 := .bool p0.s) (u1 := .slice p0.A p0.n p0.c) (u2 := .slice p0.B p0.m p0.d) (u3 := .bool q0.s) (u4 := .slice q0.A q0.n q0.c) (u5 := .slice q0.B q0.m q0.d) B12 G0
            try dsimp only
            refine hK.out _ _ ?_ (fun hHeld => ?_)
            · (try dsimp only); exact ⟨B0_0.cell0, B0_0.cell1, B0_0.cell2, B0_0.cell3, B0_0.cell4, B0_0.cell5, B1_0.cell0, B1_0.cell1, B1_0.cell2, B1_0.cell3, B1_0.cell4, B1_0.cell5⟩
            clear hK K
            change wpAnyH _ _ _ _ _ (1 + 1) _ _ _
            try simp only [Act.put, List.getElem_toArray, List.getElem_cons_succ, List.getElem_cons_zero, List.setIfInBounds_toArray, List.set_cons_zero, List.set_cons_succ]
            refine wpAnyH_ready (rs := [12]) (by kernel_rfl) (by simp) ?_
            refine AllReadyH.cons rfl (fun K hK => ?_) AllReadyH.nil
            have zc1_0 := Z1_0.cell0
            have zf1_0 := Z1_0.frozen 0
            have zc1_1 := Z1_0.cell1
            have zf1_1 := Z1_0.frozen 1
            have zc1_2 := Z1_0.cell2
            have zf1_2 := Z1_0.frozen 2
            have zc1_3 := Z1_0.cell3
            have zf1_3 := Z1_0.frozen 3
            have zc1_4 := Z1_0.cell4
            have zf1_4 := Z1_0.frozen 4
            have zc1_5 := Z1_0.cell5
            have zf1_5 := Z1_0.frozen 5
            go_simp
            have B0_0_1 := B0_0.past6 (g' := h1) (u0 := .bool p1.s) (u1 := .slice p1.A p1.n p1.c) (u2 := .slice p1.B p1.m p1.d) (u3 := .bool q1.s) (u4 := .slice q1.A q1.n q1.c) (u5 := .slice q1.B q1.m q1.d) N1_0
            have B1_0_1 := B1_0.past6 (g' := h1) (u0 := .bool p1.s) (u1 := .slice p1.A p1.n p1.c) (u2 := .slice p1.B p1.m p1.d) (u3 := .bool q1.s) (u4 := .slice q1.A q1.n q1.c) (u5 := .slice q1.B q1.m q1.d) N1_1
            have B2_0_1 := B2_0.past6 (g' := h1) (u0 := .bool p1.s) (u1 := .slice p1.A p1.n p1.c) (u2 := .slice p1.B p1.m p1.d) (u3 := .bool q1.s) (u4 := .slice q1.A q1.n q1.c) (u5 := .slice q1.B q1.m q1.d) N1_2
            have B3_0_1 := B3_0.past6 (g' := h1) (u0 := .bool p1.s) (u1 := .slice p1.A p1.n p1.c) (u2 := .slice p1.B p1.m p1.d) (u3 := .bool q1.s) (u4 := .slice q1.A q1.n q1.c) (u5 := .slice q1.B q1.m q1.d) N1_3
            have B4_0_1 := B4_0.stor6 Z1_0 (.bool p1.s) (.slice p1.A p1.n p1.c) (.slice p1.B p1.m p1.d) (.bool q1.s) (.slice q1.A q1.n q1.c) (.slice q1.B q1.m q1.d)
            have B5_0_1 := B5_0.stor6 Z1_0 (.bool p1.s) (.slice p1.A p1.n p1.c) (.slice p1.B p1.m p1.d) (.bool q1.s) (.slice q1.A q1.n q1.c) (.slice q1.B q1.m q1.d)
            have B6_0_1 := B6_0.stor6 Z1_0 (.bool p1.s) (.slice p1.A p1.n p1.c) (.slice p1.B p1.m p1.d) (.bool q1.s) (.slice q1.A q1.n q1.c) (.slice q1.B q1.m q1.d)
            have B7_0_1 := B7_0.stor6 Z1_0 (.bool p1.s) (.slice p1.A p1.n p1.c) (.slice p1.B p1.m p1.d) (.bool q1.s) (.slice q1.A q1.n q1.c) (.slice q1.B q1.m q1.d)
            have B8_0_1 := B8_0.stor6 Z1_0 (.bool p1.s) (.slice p1.A p1.n p1.c) (.slice p1.B p1.m p1.d) (.bool q1.s) (.slice q1.A q1.n q1.c) (.slice q1.B q1.m q1.d)
            have B9_0_1 := B9_0.stor6 Z1_0 (.bool p1.s) (.slice p1.A p1.n p1.c) (.slice p1.B p1.m p1.d) (.bool q1.s) (.slice q1.A q1.n q1.c) (.slice q1.B q1.m q1.d)
            have B10_0_1 := B10_0.stor6 Z1_0 (.bool p1.s) (.slice p1.A p1.n p1.c) (.slice p1.B p1.m p1.d) (.bool q1.s) (.slice q1.A q1.n q1.c) (.slice q1.B q1.m q1.d)
            have B11_0_1 := B11_0.stor6 Z1_0 (.bool p1.s) (.slice p1.A p1.n p1.c) (.slice p1.B p1.m p1.d) (.bool q1.s) (.slice q1.A q1.n q1.c) (.slice q1.B q1.m q1.d)
            have C0_0_1 := C0_0.stor6 Z1_0 (.bool p1.s) (.slice p1.A p1.n p1.c) (.slice p1.B p1.m p1.d) (.bool q1.s) (.slice q1.A q1.n q1.c) (.slice q1.B q1.m q1.d)
            have D0_0_1 := D0_0.stor6 Z1_0 (.bool p1.s) (.slice p1.A p1.n p1.c) (.slice p1.B p1.m p1.d) (.bool q1.s) (.slice q1.A q1.n q1.c) (.slice q1.B q1.m q1.d)
            have C1_0_1 := C1_0.stor6 Z1_0 (.bool p1.s) (.slice p1.A p1.n p1.c) (.slice p1.B p1.m p1.d) (.bool q1.s) (.slice q1.A q1.n q1.c) (.slice q1.B q1.m q1.d)
            have D1_0_1 := D1_0.stor6 Z1_0 (.bool p1.s) (.slice p1.A p1.n p1.c) (.slice p1.B p1.m p1.d) (.bool q1.s) (.slice q1.A q1.n q1.c) (.slice q1.B q1.m q1.d)
            have C2_0_1 := C2_0.stor6 Z1_0 (.bool p1.s) (.slice p1.A p1.n p1.c) (.slice p1.B p1.m p1.d) (.bool q1.s) (.slice q1.A q1.n q1.c) (.slice q1.B q1.m q1.d)
            have D2_0_1 := D2_0.stor6 Z1_0 (.bool p1.s) (.slice p1.A p1.n p1.c) (.slice p1.B p1.m p1.d) (.bool q1.s) (.slice q1.A q1.n q1.c) (.slice q1.B q1.m q1.d)
            have Z0_0_1 := Z0_0.past (g' := h1) (u0 := .bool p1.s) (u1 := .slice p1.A p1.n p1.c) (u2 := .slice p1.B p1.m p1.d) (u3 := .bool q1.s) (u4 := .slice q1.A q1.n q1.c) (u5 := .slice q1.B q1.m q1.d) M0_1
            have Z2_0_1 := Z2_0.past (g' := h1) (u0 := .bool p1.s) (u1 := .slice p1.A p1.n p1.c) (u2 := .slice p1.B p1.m p1.d) (u3 := .bool q1.s) (u4 := .slice q1.A q1.n q1.c) (u5 := .slice q1.B q1.m q1.d) (Ne.symm M1_2)
            have Z1_0_1 := Z1_0.stor (u0 := .bool p1.s) (u1 := .slice p1.A p1.n p1.c) (u2 := .slice p1.B p1.m p1.d) (u3 := .bool q1.s) (u4 := .slice q1.A q1.n q1.c) (u5 := .slice q1.B q1.m q1.d)
            have B12_0_1 := below_six (u0 := .bool p1.s) (u1 := .slice p1.A p1.n p1.c) (u2 := .slice p1.B p1.m p1.d) (u3 := .bool q1.s) (u4 := .slice q1.A q1.n q1.c) (u5 := .slice q1.B q1.m q1.d) B12_0 G1
            try dsimp only
            refine hK.out _ _ ?_ (fun hHeld => ?_)
            · (try dsimp only); exact ⟨B0_0_1.cell0, B0_0_1.cell1, B0_0_1.cell2, B0_0_1.cell3, B0_0_1.cell4, B0_0_1.cell5, B1_0_1.cell0, B1_0_1.cell1, B1_0_1.cell2, B1_0_1.cell3, B1_0_1.cell4, B1_0_1.cell5⟩
            clear hK K
            change wpAnyH _ _ _ _ _ (0 + 1) _ _ _
            try simp only [Act.put, List.getElem_toArray, List.getElem_cons_succ, List.getElem_cons_zero, List.setIfInBounds_toArray, List.set_cons_zero, List.set_cons_succ]
            refine wpAnyH_ready (rs := [13]) (by kernel_rfl) (by simp) ?_
            refine AllReadyH.cons rfl (fun K hK => ?_) AllReadyH.nil
            have zc2_0 := Z2_0_1.cell0
            have zf2_0 := Z2_0_1.frozen 0
            have zc2_1 := Z2_0_1.cell1
            have zf2_1 := Z2_0_1.frozen 1
            have zc2_2 := Z2_0_1.cell2
            have zf2_2 := Z2_0_1.frozen 2
            have zc2_3 := Z2_0_1.cell3
            have zf2_3 := Z2_0_1.frozen 3
            have zc2_4 := Z2_0_1.cell4
            have zf2_4 := Z2_0_1.frozen 4
            have zc2_5 := Z2_0_1.cell5
            have zf2_5 := Z2_0_1.frozen 5
            go_simp
            have B0_0_1_2 := B0_0_1.past6 (g' := h2) (u0 := .bool p2.s) (u1 := .slice p2.A p2.n p2.c) (u2 := .slice p2.B p2.m p2.d) (u3 := .bool q2.s) (u4 := .slice q2.A q2.n q2.c) (u5 := .slice q2.B q2.m q2.d) N2_0
            have B1_0_1_2 := B1_0_1.past6 (g' := h2) (u0 := .bool p2.s) (u1 := .slice p2.A p2.n p2.c) (u2 := .slice p2.B p2.m p2.d) (u3 := .bool q2.s) (u4 := .slice q2.A q2.n q2.c) (u5 := .slice q2.B q2.m q2.d) N2_1
            have B2_0_1_2 := B2_0_1.past6 (g' := h2) (u0 := .bool p2.s) (u1 := .slice p2.A p2.n p2.c) (u2 := .slice p2.B p2.m p2.d) (u3 := .bool q2.s) (u4 := .slice q2.A q2.n q2.c) (u5 := .slice q2.B q2.m q2.d) N2_2
            have B3_0_1_2 := B3_0_1.past6 (g' := h2) (u0 := .bool p2.s) (u1 := .slice p2.A p2.n p2.c) (u2 := .slice p2.B p2.m p2.d) (u3 := .bool q2.s) (u4 := .slice q2.A q2.n q2.c) (u5 := .slice q2.B q2.m q2.d) N2_3
            have B4_0_1_2 := B4_0_1.stor6 Z2_0_1 (.bool p2.s) (.slice p2.A p2.n p2.c) (.slice p2.B p2.m p2.d) (.bool q2.s) (.slice q2.A q2.n q2.c) (.slice q2.B q2.m q2.d)
            have B5_0_1_2 := B5_0_1.stor6 Z2_0_1 (.bool p2.s) (.slice p2.A p2.n p2.c) (.slice p2.B p2.m p2.d) (.bool q2.s) (.slice q2.A q2.n q2.c) (.slice q2.B q2.m q2.d)
            have B6_0_1_2 := B6_0_1.stor6 Z2_0_1 (.bool p2.s) (.slice p2.A p2.n p2.c) (.slice p2.B p2.m p2.d) (.bool q2.s) (.slice q2.A q2.n q2.c) (.slice q2.B q2.m q2.d)
            have B7_0_1_2 := B7_0_1.stor6 Z2_0_1 (.bool p2.s) (.slice p2.A p2.n p2.c) (.slice p2.B p2.m p2.d) (.bool q2.s) (.slice q2.A q2.n q2.c) (.slice q2.B q2.m q2.d)
            have B8_0_1_2 := B8_0_1.stor6 Z2_0_1 (.bool p2.s) (.slice p2.A p2.n p2.c) (.slice p2.B p2.m p2.d) (.bool q2.s) (.slice q2.A q2.n q2.c) (.slice q2.B q2.m q2.d)
            have B9_0_1_2 := B9_0_1.stor6 Z2_0_1 (.bool p2.s) (.slice p2.A p2.n p2.c) (.slice p2.B p2.m p2.d) (.bool q2.s) (.slice q2.A q2.n q2.c) (.slice q2.B q2.m q2.d)
            have B10_0_1_2 := B10_0_1.stor6 Z2_0_1 (.bool p2.s) (.slice p2.A p2.n p2.c) (.slice p2.B p2.m p2.d) (.bool q2.s) (.slice q2.A q2.n q2.c) (.slice q2.B q2.m q2.d)
            have B11_0_1_2 := B11_0_1.stor6 Z2_0_1 (.bool p2.s) (.slice p2.A p2.n p2.c) (.slice p2.B p2.m p2.d) (.bool q2.s) (.slice q2.A q2.n q2.c) (.slice q2.B q2.m q2.d)
            have C0_0_1_2 := C0_0_1.stor6 Z2_0_1 (.bool p2.s) (.slice p2.A p2.n p2.c) (.slice p2.B p2.m p2.d) (.bool q2.s) (.slice q2.A q2.n q2.c) (.slice q2.B q2.m q2.d)
            have D0_0_1_2 := D0_0_1.stor6 Z2_0_1 (.bool p2.s) (.slice p2.A p2.n p2.c) (.slice p2.B p2.m p2.d) (.bool q2.s) (.slice q2.A q2.n q2.c) (.slice q2.B q2.m q2.d)
            have C1_0_1_2 := C1_0_1.stor6 Z2_0_1 (.bool p2.s) (.slice p2.A p2.n p2.c) (.slice p2.B p2.m p2.d) (.bool q2.s) (.slice q2.A q2.n q2.c) (.slice q2.B q2.m q2.d)
            have D1_0_1_2 := D1_0_1.stor6 Z2_0_1 (.bool p2.s) (.slice p2.A p2.n p2.c) (.slice p2.B p2.m p2.d) (.bool q2.s) (.slice q2.A q2.n q2.c) (.slice q2.B q2.m q2.d)
            have C2_0_1_2 := C2_0_1.stor6 Z2_0_1 (.bool p2.s) (.slice p2.A p2.n p2.c) (.slice p2.B p2.m p2.d) (.bool q2.s) (.slice q2.A q2.n q2.c) (.slice q2.B q2.m q2.d)
            have D2_0_1_2 := D2_0_1.stor6 Z2_0_1 (.bool p2.s) (.slice p2.A p2.n p2.c) (.slice p2.B p2.m p2.d) (.bool q2.s) (.slice q2.A q2.n q2.c) (.slice q2.B q2.m q2.d)
            have Z0_0_1_2 := Z0_0_1.past (g' := h2) (u0 := .bool p2.s) (u1 := .slice p2.A p2.n p2.c) (u2 := .slice p2.B p2.m p2.d) (u3 := .bool q2.s) (u4 := .slice q2.A q2.n q2.c) (u5 := .slice q2.B q2.m q2.d) M0_2
            have Z1_0_1_2 := Z1_0_1.past (g' := h2) (u0 := .bool p2.s) (u1 := .slice p2.A p2.n p2.c) (u2 := .slice p2.B p2.m p2.d) (u3 := .bool q2.s) (u4 := .slice q2.A q2.n q2.c) (u5 := .slice q2.B q2.m q2.d) M1_2
            have Z2_0_1_2 := Z2_0_1.stor (u0 := .bool p2.s) (u1 := .slice p2.A p2.n p2.c) (u2 := .slice p2.B p2.m p2.d) (u3 := .bool q2.s) (u4 := .slice q2.A q2.n q2.c) (u5 := .slice q2.B q2.m q2.d)
            have B12_0_1_2 := below_six (u0 := .bool p2.s) (u1 := .slice p2.A p2.n p2.c) (u2 := .slice p2.B p2.m p2.d) (u3 := .bool q2.s) (u4 := .slice q2.A q2.n q2.c) (u5 := .slice q2.B q2.m q2.d) B12_0_1 G2
            try dsimp only
            refine hK.out _ _ ?_ (fun hHeld => ?_)
            · (try dsimp only); exact ⟨B0_0_1_2.cell0, B0_0_1_2.cell1, B0_0_1_2.cell2, B0_0_1_2.cell3, B0_0_1_2.cell4, B0_0_1_2.cell5, B1_0_1_2.cell0, B1_0_1_2.cell1, B1_0_1_2.cell2, B1_0_1_2.cell3, B1_0_1_2.cell4, B1_0_1_2.cell5⟩
            clear hK K
            try simp only [Act.put, List.getElem_toArray, List.getElem_cons_succ, List.getElem_cons_zero, List.setIfInBounds_toArray, List.set_cons_zero, List.set_cons_succ]
            refine wpAnyH_done (by kernel_rfl) ?_ _
            go_wp2_with fail
            go_meet
            exact ⟨_, h0, h1, h2, p0, q0, p1, q1, p2, q2, rfl, rfl, rfl, rfl, Z0_0_1_2, Z1_0_1_2, Z2_0_1_2, B0_0_1_2, B1_0_1_2, B2_0_1_2, B3_0_1_2, B4_0_1_2, B5_0_1_2, B6_0_1_2, B7_0_1_2, B8_0_1_2, B9_0_1_2, B10_0_1_2, B11_0_1_2, C0_0_1_2, D0_0_1_2, C1_0_1_2, D1_0_1_2, C2_0_1_2, D2_0_1_2, B12_0_1_2⟩
          · exact hI.2.elim
  case rest =>
    obtain ⟨Wqs, gqs, gqn, gqm, qsu, qsv, qnu, qnv, qmu, qmv, rfl, rfl, rfl, rfl, ygqs0, ygqn0, ygqm0, ba_13, bb_13, bl_13, bt_13, ku_13, kv_13, kx_13, ky_13, f1_13, f2_13, t1_13, t2_13, a1_13, a2_13, b1_13, b2_13, m1_13, m2_13, F13⟩ := hcut
    have ygqs : Sv Wqs gqs qsu qsv := ygqs0
    have ygqn : Sv Wqs gqn qnu qnv := ygqn0
    have ygqm : Sv Wqs gqm qmu qmv := ygqm0
    clear ygqs0 ygqn0 ygqm0
    have ba_u13 := ba_13.cell0
    have ba_v13 := ba_13.cell1
    have ba_w13 := ba_13.cell2
    have ba_x13 := ba_13.cell3
    have ba_y13 := ba_13.cell4
    have ba_z13 := ba_13.cell5
    have bb_u13 := bb_13.cell0
    have bb_v13 := bb_13.cell1
    have bb_w13 := bb_13.cell2
    have bb_x13 := bb_13.cell3
    have bb_y13 := bb_13.cell4
    have bb_z13 := bb_13.cell5
    have bl_u13 := bl_13.cell0
    have bl_v13 := bl_13.cell1
    have bl_w13 := bl_13.cell2
    have bl_x13 := bl_13.cell3
    have bl_y13 := bl_13.cell4
    have bl_z13 := bl_13.cell5
    have bt_u13 := bt_13.cell0
    have bt_v13 := bt_13.cell1
    have bt_w13 := bt_13.cell2
    have bt_x13 := bt_13.cell3
    have bt_y13 := bt_13.cell4
    have bt_z13 := bt_13.cell5
    have qs_u13 := ygqs.cell0
    have qs_v13 := ygqs.cell1
    have qs_w13 := ygqs.cell2
    have qs_x13 := ygqs.cell3
    have qs_y13 := ygqs.cell4
    have qs_z13 := ygqs.cell5
    have qn_u13 := ygqn.cell0
    have qn_v13 := ygqn.cell1
    have qn_w13 := ygqn.cell2
    have qn_x13 := ygqn.cell3
    have qn_y13 := ygqn.cell4
    have qn_z13 := ygqn.cell5
    have qm_u13 := ygqm.cell0
    have qm_v13 := ygqm.cell1
    have qm_w13 := ygqm.cell2
    have qm_x13 := ygqm.cell3
    have qm_y13 := ygqm.cell4
    have qm_z13 := ygqm.cell5
    go_wp2_with fail
    have kx_14 := kx_13.drew
    have ky_14 := ky_13.drew
    have f1_14 := f1_13.drew
    have f2_14 := f2_13.drew
    have t1_14 := t1_13.drew
    have t2_14 := t2_13.drew
    have a1_14 := a1_13.drew
    have a2_14 := a2_13.drew
    have b1_14 := b1_13.drew
    have b2_14 := b2_13.drew
    have m1_14 := m1_13.drew
    have m2_14 := m2_13.drew
    have bb_14 := bb_13.drew
    have bl_14 := bl_13.drew
    have bt_14 := bt_13.drew
    have qs_14 := ygqs.drew
    have qn_14 := ygqn.drew
    have qm_14 := ygqm.drew
    have F14 := F13.drew
    go_region_held3 (fun w' => w'.cell? ⟨w.heap.size + 1, 0, none⟩ = some (.bool x.s) ∧ w'.cell? ⟨w.heap.size + 1, 1, none⟩ = some (.slice x.A x.n x.c) ∧ w'.cell? ⟨w.heap.size + 1, 2, none⟩ = some (.slice x.B x.m x.d) ∧ w'.cell? ⟨w.heap.size + 1, 3, none⟩ = some (.bool y.s) ∧ w'.cell? ⟨w.heap.size + 1, 4, none⟩ = some (.slice y.A y.n y.c) ∧ w'.cell? ⟨w.heap.size + 1, 5, none⟩ = some (.slice y.B y.m y.d) ∧ w'.cell? ⟨w8.heap.size, 0, none⟩ = some (.bool u8.s) ∧ w'.cell? ⟨w8.heap.size, 1, none⟩ = some (.slice u8.A u8.n u8.c) ∧ w'.cell? ⟨w8.heap.size, 2, none⟩ = some (.slice u8.B u8.m u8.d) ∧ w'.cell? ⟨w8.heap.size, 3, none⟩ = some (.bool v8.s) ∧ w'.cell? ⟨w8.heap.size, 4, none⟩ = some (.slice v8.A v8.n v8.c) ∧ w'.cell? ⟨w8.heap.size, 5, none⟩ = some (.slice v8.B v8.m v8.d) ∧ w'.cell? ⟨w10.heap.size, 0, none⟩ = some (.bool u10.s) ∧ w'.cell? ⟨w10.heap.size, 1, none⟩ = some (.slice u10.A u10.n u10.c) ∧ w'.cell? ⟨w10.heap.size, 2, none⟩ = some (.slice u10.B u10.m u10.d) ∧ w'.cell? ⟨w10.heap.size, 3, none⟩ = some (.bool v10.s) ∧ w'.cell? ⟨w10.heap.size, 4, none⟩ = some (.slice v10.A v10.n v10.c) ∧ w'.cell? ⟨w10.heap.size, 5, none⟩ = some (.slice v10.B v10.m v10.d) ∧ w'.cell? ⟨gqs, 0, none⟩ = some (.bool qsu.s) ∧ w'.cell? ⟨gqs, 1, none⟩ = some (.slice qsu.A qsu.n qsu.c) ∧ w'.cell? ⟨gqs, 2, none⟩ = some (.slice qsu.B qsu.m qsu.d) ∧ w'.cell? ⟨gqs, 3, none⟩ = some (.bool qsv.s) ∧ w'.cell? ⟨gqs, 4, none⟩ = some (.slice qsv.A qsv.n qsv.c) ∧ w'.cell? ⟨gqs, 5, none⟩ = some (.slice qsv.B qsv.m qsv.d) ∧ w'.cell? ⟨gqn, 0, none⟩ = some (.bool qnu.s) ∧ w'.cell? ⟨gqn, 1, none⟩ = some (.slice qnu.A qnu.n qnu.c) ∧ w'.cell? ⟨gqn, 2, none⟩ = some (.slice qnu.B qnu.m qnu.d) ∧ w'.cell? ⟨gqn, 3, none⟩ = some (.bool qnv.s) ∧ w'.cell? ⟨gqn, 4, none⟩ = some (.slice qnv.A qnv.n qnv.c) ∧ w'.cell? ⟨gqn, 5, none⟩ = some (.slice qnv.B qnv.m qnv.d) ∧ w'.cell? ⟨gqm, 0, none⟩ = some (.bool qmu.s) ∧ w'.cell? ⟨gqm, 1, none⟩ = some (.slice qmu.A qmu.n qmu.c) ∧ w'.cell? ⟨gqm, 2, none⟩ = some (.slice qmu.B qmu.m qmu.d) ∧ w'.cell? ⟨gqm, 3, none⟩ = some (.bool qmv.s) ∧ w'.cell? ⟨gqm, 4, none⟩ = some (.slice qmv.A qmv.n qmv.c) ∧ w'.cell? ⟨gqm, 5, none⟩ = some (.slice qmv.B qmv.m qmv.d))
      (first
        | with_reducible exact ⟨bb_22.cell0, bb_22.cell1, bb_22.cell2, bb_22.cell3, bb_22.cell4, bb_22.cell5, bl_22.cell0, bl_22.cell1, bl_22.cell2, bl_22.cell3, bl_22.cell4, bl_22.cell5, bt_22.cell0, bt_22.cell1, bt_22.cell2, bt_22.cell3, bt_22.cell4, bt_22.cell5, qs_22.cell0, qs_22.cell1, qs_22.cell2, qs_22.cell3, qs_22.cell4, qs_22.cell5, qn_22.cell0, qn_22.cell1, qn_22.cell2, qn_22.cell3, qn_22.cell4, qn_22.cell5, qm_22.cell0, qm_22.cell1, qm_22.cell2, qm_22.cell3, qm_22.cell4, qm_22.cell5⟩
        | with_reducible exact ⟨bb_21.cell0, bb_21.cell1, bb_21.cell2, bb_21.cell3, bb_21.cell4, bb_21.cell5, bl_21.cell0, bl_21.cell1, bl_21.cell2, bl_21.cell3, bl_21.cell4, bl_21.cell5, bt_21.cell0, bt_21.cell1, bt_21.cell2, bt_21.cell3, bt_21.cell4, bt_21.cell5, qs_21.cell0, qs_21.cell1, qs_21.cell2, qs_21.cell3, qs_21.cell4, qs_21.cell5, qn_21.cell0, qn_21.cell1, qn_21.cell2, qn_21.cell3, qn_21.cell4, qn_21.cell5, qm_21.cell0, qm_21.cell1, qm_21.cell2, qm_21.cell3, qm_21.cell4, qm_21.cell5⟩
        | with_reducible exact ⟨bb_20.cell0, bb_20.cell1, bb_20.cell2, bb_20.cell3, bb_20.cell4, bb_20.cell5, bl_20.cell0, bl_20.cell1, bl_20.cell2, bl_20.cell3, bl_20.cell4, bl_20.cell5, bt_20.cell0, bt_20.cell1, bt_20.cell2, bt_20.cell3, bt_20.cell4, bt_20.cell5, qs_20.cell0, qs_20.cell1, qs_20.cell2, qs_20.cell3, qs_20.cell4, qs_20.cell5, qn_20.cell0, qn_20.cell1, qn_20.cell2, qn_20.cell3, qn_20.cell4, qn_20.cell5, qm_20.cell0, qm_20.cell1, qm_20.cell2, qm_20.cell3, qm_20.cell4, qm_20.cell5⟩
        | with_reducible exact ⟨bb_19.cell0, bb_19.cell1, bb_19.cell2, bb_19.cell3, bb_19.cell4, bb_19.cell5, bl_19.cell0, bl_19.cell1, bl_19.cell2, bl_19.cell3, bl_19.cell4, bl_19.cell5, bt_19.cell0, bt_19.cell1, bt_19.cell2, bt_19.cell3, bt_19.cell4, bt_19.cell5, qs_19.cell0, qs_19.cell1, qs_19.cell2, qs_19.cell3, qs_19.cell4, qs_19.cell5, qn_19.cell0, qn_19.cell1, qn_19.cell2, qn_19.cell3, qn_19.cell4, qn_19.cell5, qm_19.cell0, qm_19.cell1, qm_19.cell2, qm_19.cell3, qm_19.cell4, qm_19.cell5⟩
        | with_reducible exact ⟨bb_18.cell0, bb_18.cell1, bb_18.cell2, bb_18.cell3, bb_18.cell4, bb_18.cell5, bl_18.cell0, bl_18.cell1, bl_18.cell2, bl_18.cell3, bl_18.cell4, bl_18.cell5, bt_18.cell0, bt_18.cell1, bt_18.cell2, bt_18.cell3, bt_18.cell4, bt_18.cell5, qs_18.cell0, qs_18.cell1, qs_18.cell2, qs_18.cell3, qs_18.cell4, qs_18.cell5, qn_18.cell0, qn_18.cell1, qn_18.cell2, qn_18.cell3, qn_18.cell4, qn_18.cell5, qm_18.cell0, qm_18.cell1, qm_18.cell2, qm_18.cell3, qm_18.cell4, qm_18.cell5⟩
        | with_reducible exact ⟨bb_17.cell0, bb_17.cell1, bb_17.cell2, bb_17.cell3, bb_17.cell4, bb_17.cell5, bl_17.cell0, bl_17.cell1, bl_17.cell2, bl_17.cell3, bl_17.cell4, bl_17.cell5, bt_17.cell0, bt_17.cell1, bt_17.cell2, bt_17.cell3, bt_17.cell4, bt_17.cell5, qs_17.cell0, qs_17.cell1, qs_17.cell2, qs_17.cell3, qs_17.cell4, qs_17.cell5, qn_17.cell0, qn_17.cell1, qn_17.cell2, qn_17.cell3, qn_17.cell4, qn_17.cell5, qm_17.cell0, qm_17.cell1, qm_17.cell2, qm_17.cell3, qm_17.cell4, qm_17.cell5⟩
        | with_reducible exact ⟨bb_16.cell0, bb_16.cell1, bb_16.cell2, bb_16.cell3, bb_16.cell4, bb_16.cell5, bl_16.cell0, bl_16.cell1, bl_16.cell2, bl_16.cell3, bl_16.cell4, bl_16.cell5, bt_16.cell0, bt_16.cell1, bt_16.cell2, bt_16.cell3, bt_16.cell4, bt_16.cell5, qs_16.cell0, qs_16.cell1, qs_16.cell2, qs_16.cell3, qs_16.cell4, qs_16.cell5, qn_16.cell0, qn_16.cell1, qn_16.cell2, qn_16.cell3, qn_16.cell4, qn_16.cell5, qm_16.cell0, qm_16.cell1, qm_16.cell2, qm_16.cell3, qm_16.cell4, qm_16.cell5⟩
        | with_reducible exact ⟨bb_15.cell0, bb_15.cell1, bb_15.cell2, bb_15.cell3, bb_15.cell4, bb_15.cell5, bl_15.cell0, bl_15.cell1, bl_15.cell2, bl_15.cell3, bl_15.cell4, bl_15.cell5, bt_15.cell0, bt_15.cell1, bt_15.cell2, bt_15.cell3, bt_15.cell4, bt_15.cell5, qs_15.cell0, qs_15.cell1, qs_15.cell2, qs_15.cell3, qs_15.cell4, qs_15.cell5, qn_15.cell0, qn_15.cell1, qn_15.cell2, qn_15.cell3, qn_15.cell4, qn_15.cell5, qm_15.cell0, qm_15.cell1, qm_15.cell2, qm_15.cell3, qm_15.cell4, qm_15.cell5⟩
        | with_reducible exact ⟨bb_14.cell0, bb_14.cell1, bb_14.cell2, bb_14.cell3, bb_14.cell4, bb_14.cell5, bl_14.cell0, bl_14.cell1, bl_14.cell2, bl_14.cell3, bl_14.cell4, bl_14.cell5, bt_14.cell0, bt_14.cell1, bt_14.cell2, bt_14.cell3, bt_14.cell4, bt_14.cell5, qs_14.cell0, qs_14.cell1, qs_14.cell2, qs_14.cell3, qs_14.cell4, qs_14.cell5, qn_14.cell0, qn_14.cell1, qn_14.cell2, qn_14.cell3, qn_14.cell4, qn_14.cell5, qm_14.cell0, qm_14.cell1, qm_14.cell2, qm_14.cell3, qm_14.cell4, qm_14.cell5⟩
        | fail)
      (first
        | (go_at_call 19; (with_reducible refine (iadd_e _ _ _ _ p X p' q' S1 S3 _ HS1.out HS3.out f1_14 f2_14 kx_14 ky_14 HI.out.1 HP.out.2 sp sX1 sp' sq').mono ?_); rintro e w15 ⟨u15, v15, rfl, n1, n2, b15⟩; have kx_15 := kx_14.below b15; have ky_15 := ky_14.below b15; have f1_15 := f1_14.below b15; have f2_15 := f2_14.below b15; have t1_15 := t1_14.below b15; have t2_15 := t2_14.below b15; have a1_15 := a1_14.below b15; have a2_15 := a2_14.below b15; have b1_15 := b1_14.below b15; have b2_15 := b2_14.below b15; have m1_15 := m1_14.below b15; have m2_15 := m2_14.below b15; have bb_15 := bb_14.below b15 bb_14.lt; have bl_15 := bl_14.below b15 bl_14.lt; have bt_15 := bt_14.below b15 bt_14.lt; have qs_15 := qs_14.below b15 qs_14.lt; have qn_15 := qn_14.below b15 qn_14.lt; have qm_15 := qm_14.below b15 qm_14.lt; have F15 := below_then F14 (Nat.le_refl _) b15)
        | (go_at_call 39; (with_reducible refine (iwithin_iv _ _ _ _ S1 S3 S1 S2 true _ HC1.out n1 n2 a1_15 a2_15 HL.out.1 HL.out.2.2.2.2.2.1 s1 s3 s1 s2).mono ?_); rintro e w16 ⟨rfl, b16⟩; have kx_16 := kx_15.below b16; have ky_16 := ky_15.below b16; have f1_16 := f1_15.below b16; have f2_16 := f2_15.below b16; have t1_16 := t1_15.below b16; have t2_16 := t2_15.below b16; have a1_16 := a1_15.below b16; have a2_16 := a2_15.below b16; have b1_16 := b1_15.below b16; have b2_16 := b2_15.below b16; have m1_16 := m1_15.below b16; have m2_16 := m2_15.below b16; have n1_16 := n1.below b16; have n2_16 := n2.below b16; have bb_16 := bb_15.below b16 bb_15.lt; have bl_16 := bl_15.below b16 bl_15.lt; have bt_16 := bt_15.below b16 bt_15.lt; have qs_16 := qs_15.below b16 qs_15.lt; have qn_16 := qn_15.below b16 qn_15.lt; have qm_16 := qm_15.below b16 qm_15.lt; have F16 := below_then F15 (Nat.le_refl _) b16)
        | (go_at_call 29; (with_reducible refine (imul_e _ _ _ _ X q p' q' zA2 zB2 _ HA2.out HB2.out t1_16 t2_16 kx_16 ky_16 HI.out.2 HP.out.2 sX1 sq sp' sq').mono ?_); rintro e w17 ⟨u17, v17, rfl, n3, n4, b17⟩; have kx_17 := kx_16.below b17; have ky_17 := ky_16.below b17; have f1_17 := f1_16.below b17; have f2_17 := f2_16.below b17; have t1_17 := t1_16.below b17; have t2_17 := t2_16.below b17; have a1_17 := a1_16.below b17; have a2_17 := a2_16.below b17; have b1_17 := b1_16.below b17; have b2_17 := b2_16.below b17; have m1_17 := m1_16.below b17; have m2_17 := m2_16.below b17; have n1_17 := n1_16.below b17; have n2_17 := n2_16.below b17; have bb_17 := bb_16.below b17 bb_16.lt; have bl_17 := bl_16.below b17 bl_16.lt; have bt_17 := bt_16.below b17 bt_16.lt; have qs_17 := qs_16.below b17 qs_16.lt; have qn_17 := qn_16.below b17 qn_16.lt; have qm_17 := qm_16.below b17 qm_16.lt; have F17 := below_then F16 (Nat.le_refl _) b17)
        | (go_at_call 39; (with_reducible refine (iwithin_iv _ _ _ _ zA2 zB2 zA1 zB1 true _ HC2.out n3 n4 b1_17 b2_17 HL.out.2.2.1 HL.out.2.1 a3_ a4_ a1_ a2_).mono ?_); rintro e w18 ⟨rfl, b18⟩; have kx_18 := kx_17.below b18; have ky_18 := ky_17.below b18; have f1_18 := f1_17.below b18; have f2_18 := f2_17.below b18; have t1_18 := t1_17.below b18; have t2_18 := t2_17.below b18; have a1_18 := a1_17.below b18; have a2_18 := a2_17.below b18; have b1_18 := b1_17.below b18; have b2_18 := b2_17.below b18; have m1_18 := m1_17.below b18; have m2_18 := m2_17.below b18; have n1_18 := n1_17.below b18; have n2_18 := n2_17.below b18; have n3_18 := n3.below b18; have n4_18 := n4.below b18; have bb_18 := bb_17.below b18 bb_17.lt; have bl_18 := bl_17.below b18 bl_17.lt; have bt_18 := bt_17.below b18 bt_17.lt; have qs_18 := qs_17.below b18 qs_17.lt; have qn_18 := qn_17.below b18 qn_17.lt; have qm_18 := qm_17.below b18 qm_17.lt; have F18 := below_then F17 (Nat.le_refl _) b18)
        | (go_at_call 29; (with_reducible refine (imul_e _ _ _ _ p' q' p X zA3 zB3 _ HA3.out HB3.out kx_18 ky_18 f1_18 f2_18 HP.out.2 HI.out.1 sp' sq' sp sX1).mono ?_); rintro e w19 ⟨u19, v19, rfl, n5, n6, b19⟩; have kx_19 := kx_18.below b19; have ky_19 := ky_18.below b19; have f1_19 := f1_18.below b19; have f2_19 := f2_18.below b19; have t1_19 := t1_18.below b19; have t2_19 := t2_18.below b19; have a1_19 := a1_18.below b19; have a2_19 := a2_18.below b19; have b1_19 := b1_18.below b19; have b2_19 := b2_18.below b19; have m1_19 := m1_18.below b19; have m2_19 := m2_18.below b19; have n1_19 := n1_18.below b19; have n2_19 := n2_18.below b19; have n3_19 := n3_18.below b19; have n4_19 := n4_18.below b19; have bb_19 := bb_18.below b19 bb_18.lt; have bl_19 := bl_18.below b19 bl_18.lt; have bt_19 := bt_18.below b19 bt_18.lt; have qs_19 := qs_18.below b19 qs_18.lt; have qn_19 := qn_18.below b19 qn_18.lt; have qm_19 := qm_18.below b19 qm_18.lt; have F19 := below_then F18 (Nat.le_refl _) b19)
        | (go_at_call 39; (with_reducible refine (iwithin_iv _ _ _ _ zA3 zB3 zA1 zB1 true _ HC3.out n5 n6 b1_19 b2_19 HL.out.2.2.2.1 HL.out.2.1 a5_ a6_ a1_ a2_).mono ?_); rintro e w20 ⟨rfl, b20⟩; have kx_20 := kx_19.below b20; have ky_20 := ky_19.below b20; have f1_20 := f1_19.below b20; have f2_20 := f2_19.below b20; have t1_20 := t1_19.below b20; have t2_20 := t2_19.below b20; have a1_20 := a1_19.below b20; have a2_20 := a2_19.below b20; have b1_20 := b1_19.below b20; have b2_20 := b2_19.below b20; have m1_20 := m1_19.below b20; have m2_20 := m2_19.below b20; have n1_20 := n1_19.below b20; have n2_20 := n2_19.below b20; have n3_20 := n3_19.below b20; have n4_20 := n4_19.below b20; have n5_20 := n5.below b20; have n6_20 := n6.below b20; have bb_20 := bb_19.below b20 bb_19.lt; have bl_20 := bl_19.below b20 bl_19.lt; have bt_20 := bt_19.below b20 bt_19.lt; have qs_20 := qs_19.below b20 qs_19.lt; have qn_20 := qn_19.below b20 qn_19.lt; have qm_20 := qm_19.below b20 qm_19.lt; have F20 := below_then F19 (Nat.le_refl _) b20)
        | (go_at_call 30; (with_reducible refine (irelu_e _ _ X q R3 R2 _ HR3.out HR2.out t1_20 t2_20 HI.out.2 sX1 sq).mono ?_); rintro e w21 ⟨u21, v21, rfl, n7, n8, b21⟩; have kx_21 := kx_20.below b21; have ky_21 := ky_20.below b21; have f1_21 := f1_20.below b21; have f2_21 := f2_20.below b21; have t1_21 := t1_20.below b21; have t2_21 := t2_20.below b21; have a1_21 := a1_20.below b21; have a2_21 := a2_20.below b21; have b1_21 := b1_20.below b21; have b2_21 := b2_20.below b21; have m1_21 := m1_20.below b21; have m2_21 := m2_20.below b21; have n1_21 := n1_20.below b21; have n2_21 := n2_20.below b21; have n3_21 := n3_20.below b21; have n4_21 := n4_20.below b21; have n5_21 := n5_20.below b21; have n6_21 := n6_20.below b21; have bb_21 := bb_20.below b21 bb_20.lt; have bl_21 := bl_20.below b21 bl_20.lt; have bt_21 := bt_20.below b21 bt_20.lt; have qs_21 := qs_20.below b21 qs_20.lt; have qn_21 := qn_20.below b21 qn_20.lt; have qm_21 := qm_20.below b21 qm_20.lt; have F21 := below_then F20 (Nat.le_refl _) b21)
        | (go_at_call 39; (with_reducible refine (iwithin_iv _ _ _ _ R3 R2 R1 R2 true _ HC4.out n7 n8 m1_21 m2_21 HL.out.2.2.2.2.1 HL.out.2.2.2.2.2.2 r3_ r2_ r1_ r2_).mono ?_); rintro e w22 ⟨rfl, b22⟩; have kx_22 := kx_21.below b22; have ky_22 := ky_21.below b22; have f1_22 := f1_21.below b22; have f2_22 := f2_21.below b22; have t1_22 := t1_21.below b22; have t2_22 := t2_21.below b22; have a1_22 := a1_21.below b22; have a2_22 := a2_21.below b22; have b1_22 := b1_21.below b22; have b2_22 := b2_21.below b22; have m1_22 := m1_21.below b22; have m2_22 := m2_21.below b22; have n1_22 := n1_21.below b22; have n2_22 := n2_21.below b22; have n3_22 := n3_21.below b22; have n4_22 := n4_21.below b22; have n5_22 := n5_21.below b22; have n6_22 := n6_21.below b22; have n7_22 := n7.below b22; have n8_22 := n8.below b22; have bb_22 := bb_21.below b22 bb_21.lt; have bl_22 := bl_21.below b22 bl_21.lt; have bt_22 := bt_21.below b22 bt_21.lt; have qs_22 := qs_21.below b22 qs_21.lt; have qn_22 := qn_21.below b22 qn_21.lt; have qm_22 := qm_21.below b22 qm_21.lt; have F22 := below_then F21 (Nat.le_refl _) b22)
        | fail)
    have bb_u22 := bb_22.cell0
    have bb_v22 := bb_22.cell1
    have bb_w22 := bb_22.cell2
    have bb_x22 := bb_22.cell3
    have bb_y22 := bb_22.cell4
    have bb_z22 := bb_22.cell5
    have bl_u22 := bl_22.cell0
    have bl_v22 := bl_22.cell1
    have bl_w22 := bl_22.cell2
    have bl_x22 := bl_22.cell3
    have bl_y22 := bl_22.cell4
    have bl_z22 := bl_22.cell5
    have bt_u22 := bt_22.cell0
    have bt_v22 := bt_22.cell1
    have bt_w22 := bt_22.cell2
    have bt_x22 := bt_22.cell3
    have bt_y22 := bt_22.cell4
    have bt_z22 := bt_22.cell5
    have qs_u22 := qs_22.cell0
    have qs_v22 := qs_22.cell1
    have qs_w22 := qs_22.cell2
    have qs_x22 := qs_22.cell3
    have qs_y22 := qs_22.cell4
    have qs_z22 := qs_22.cell5
    have qn_u22 := qn_22.cell0
    have qn_v22 := qn_22.cell1
    have qn_w22 := qn_22.cell2
    have qn_x22 := qn_22.cell3
    have qn_y22 := qn_22.cell4
    have qn_z22 := qn_22.cell5
    have qm_u22 := qm_22.cell0
    have qm_v22 := qm_22.cell1
    have qm_w22 := qm_22.cell2
    have qm_x22 := qm_22.cell3
    have qm_y22 := qm_22.cell4
    have qm_z22 := qm_22.cell5
    go_wp2
    go_ret
    exact ⟨rfl, F22⟩
theorem law_incl (u v x y : Rv) (xs ys xs' ys' zs ws zs' ws' : List Nat) (o : Int) (w : World) (ho : 0 ≤ o ∧ o < 256) (hu : Rx w u xs ys) (hv : Rx w v xs' ys') (hx : Rx w x zs ws) (hy : Rx w y zs' ws') : Calls Try.prog 8 #[.agg #[.bool u.s, .slice u.A u.n u.c, .slice u.B u.m u.d, .bool v.s, .slice v.A v.n v.c, .slice v.B v.m v.d], .agg #[.bool x.s, .slice x.A x.n x.c, .slice x.B x.m x.d, .bool y.s, .slice y.A y.n y.c, .slice y.B y.m y.d], .int .u8 o] w (fun e w' => e = .returned (.bool true) ∧ Below w.heap.size w w') := by
  by_cases ha : (Lu 2 u ∧ Lu 2 v ∧ (isC u.s xs ys && isC v.s xs' ys' && decide (rv u.s xs ys ≤ rv v.s xs' ys')) = true)
  · by_cases hb : (Lu 2 x ∧ Lu 2 y ∧ (isC x.s zs ws && isC y.s zs' ws' && decide (rv x.s zs ws ≤ rv y.s zs' ws')) = true)
    · exact in_yes u v x y xs ys xs' ys' zs ws zs' ws' o w ho hu hv hx hy ha hb
    · exact in_n2 u v x y xs ys xs' ys' zs ws zs' ws' o w hu hv hx hy ha hb
  · exact in_n1 u v x y xs ys xs' ys' zs ws zs' ws' o w hu hv hx hy ha
end Go.Proofs.Ytnddhohjfjlaiaa
