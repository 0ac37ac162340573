/-
  The walk of IntervalSum.
-/
import Derived.Test.YtnddhohjfjlaiaaU3
namespace Go.Proofs.Ytnddhohjfjlaiaa
open Go.RowKit
set_option linter.unusedVariables false
set_option linter.unusedSimpArgs false

theorem sm_n1 (u v x y t : Rv) (xs ys xs' ys' zs ws zs' ws' ts ts' : List Nat) (w : World) (hu : Rx w u xs ys) (hv : Rx w v xs' ys') (hx : Rx w x zs ws) (hy : Rx w y zs' ws') (ht : Rx w t ts ts') (hh : ¬ (Lu 2 u ∧ Lu 2 v ∧ (isC u.s xs ys && isC v.s xs' ys' && decide (rv u.s xs ys ≤ rv v.s xs' ys')) = true)) : Calls Try.prog 4 #[.agg #[.bool u.s, .slice u.A u.n u.c, .slice u.B u.m u.d, .bool v.s, .slice v.A v.n v.c, .slice v.B v.m v.d], .agg #[.bool x.s, .slice x.A x.n x.c, .slice x.B x.m x.d, .bool y.s, .slice y.A y.n y.c, .slice y.B y.m y.d], .agg #[.bool t.s, .slice t.A t.n t.c, .slice t.B t.m t.d]] w (fun e w' => e = .returned (.bool true) ∧ Below w.heap.size w w') := by
  have HN := hide hh
  clear hh ht 
  have hu_1 := hu.alloc (EV u v)
  have hv_1 := hv.alloc (EV u v)
  have hx_1 := hx.alloc (EV u v)
  have hy_1 := hy.alloc (EV u v)
  have ba_1 : Sv ((w).alloc (EV u v)) (w.heap.size) u v := by have h_ := Sv.new (w) u v; exact h_
  have F1 := (Below.refl w.heap.size w).alloc (Nat.le_refl _) (EV u v)
  have hu_2 := hu_1.alloc (EV x y)
  have hv_2 := hv_1.alloc (EV x y)
  have hx_2 := hx_1.alloc (EV x y)
  have hy_2 := hy_1.alloc (EV x y)
  have ba_2 := ba_1.alloc (EV x y)
  have bb_2 : Sv (((w).alloc (EV u v)).alloc (EV x y)) (w.heap.size + 1) x y := by have h_ := Sv.new ((w).alloc (EV u v)) x y; simp only [World.size_alloc] at h_; exact h_
  have F2 := F1.alloc F1.size (EV x y)
  have hu_3 := hu_2.alloc (EU t)
  have hv_3 := hv_2.alloc (EU t)
  have hx_3 := hx_2.alloc (EU t)
  have hy_3 := hy_2.alloc (EU t)
  have ba_3 := ba_2.alloc (EU t)
  have bb_3 := bb_2.alloc (EU t)
  have bc_3 : Su ((((w).alloc (EV u v)).alloc (EV x y)).alloc (EU t)) (w.heap.size + 2) t := by have h_ := Su.new (((w).alloc (EV u v)).alloc (EV x y)) t; simp only [World.size_alloc] at h_; exact h_
  have F3 := F2.alloc F2.size (EU t)
  go_enter Try.func4, Try.ntmps4
  have ba_u3 := ba_3.cell0
  have ba_v3 := ba_3.cell1
  have ba_w3 := ba_3.cell2
  have ba_x3 := ba_3.cell3
  have ba_y3 := ba_3.cell4
  have ba_z3 := ba_3.cell5
  have bb_u3 := bb_3.cell0
  have bb_v3 := bb_3.cell1
  have bb_w3 := bb_3.cell2
  have bb_x3 := bb_3.cell3
  have bb_y3 := bb_3.cell4
  have bb_z3 := bb_3.cell5
  have bc_u3 := bc_3.cell0
  have bc_v3 := bc_3.cell1
  have bc_w3 := bc_3.cell2
  go_wp2_with fail
  refine (awake6 _).mono ?_
  rintro e w4 ⟨rfl, b4⟩
  have hu_4 := hu_3.below b4
  have hv_4 := hv_3.below b4
  have hx_4 := hx_3.below b4
  have hy_4 := hy_3.below b4
  have ba_4 := ba_3.below b4 ba_3.lt
  have bb_4 := bb_3.below b4 bb_3.lt
  have bc_4 := bc_3.below b4 bc_3.lt
  have F4 := below_then F3 (Nat.le_refl _) b4
  have ba_u4 := ba_4.cell0
  have ba_v4 := ba_4.cell1
  have ba_w4 := ba_4.cell2
  have ba_x4 := ba_4.cell3
  have ba_y4 := ba_4.cell4
  have ba_z4 := ba_4.cell5
  have bb_u4 := bb_4.cell0
  have bb_v4 := bb_4.cell1
  have bb_w4 := bb_4.cell2
  have bb_x4 := bb_4.cell3
  have bb_y4 := bb_4.cell4
  have bb_z4 := bb_4.cell5
  have bc_u4 := bc_4.cell0
  have bc_v4 := bc_4.cell1
  have bc_w4 := bc_4.cell2
  go_wp2_with fail
  refine (small_no _ _ xs ys xs' ys' _ hu_4 hv_4 HN.out).mono ?_
  rintro e w5 ⟨rfl, b5⟩
  have hu_5 := hu_4.below b5
  have hv_5 := hv_4.below b5
  have hx_5 := hx_4.below b5
  have hy_5 := hy_4.below b5
  have ba_5 := ba_4.below b5 ba_4.lt
  have bb_5 := bb_4.below b5 bb_4.lt
  have bc_5 := bc_4.below b5 bc_4.lt
  have F5 := below_then F4 (Nat.le_refl _) b5
  have ba_u5 := ba_5.cell0
  have ba_v5 := ba_5.cell1
  have ba_w5 := ba_5.cell2
  have ba_x5 := ba_5.cell3
  have ba_y5 := ba_5.cell4
  have ba_z5 := ba_5.cell5
  have bb_u5 := bb_5.cell0
  have bb_v5 := bb_5.cell1
  have bb_w5 := bb_5.cell2
  have bb_x5 := bb_5.cell3
  have bb_y5 := bb_5.cell4
  have bb_z5 := bb_5.cell5
  have bc_u5 := bc_5.cell0
  have bc_v5 := bc_5.cell1
  have bc_w5 := bc_5.cell2
  go_wp2
  go_ret
  exact ⟨rfl, F5⟩
theorem sm_n2 (u v x y t : Rv) (xs ys xs' ys' zs ws zs' ws' ts ts' : List Nat) (w : World) (hu : Rx w u xs ys) (hv : Rx w v xs' ys') (hx : Rx w x zs ws) (hy : Rx w y zs' ws') (ht : Rx w t ts ts') (ha : (Lu 2 u ∧ Lu 2 v ∧ (isC u.s xs ys && isC v.s xs' ys' && decide (rv u.s xs ys ≤ rv v.s xs' ys')) = true)) (hh : ¬ (Lu 2 x ∧ Lu 2 y ∧ (isC x.s zs ws && isC y.s zs' ws' && decide (rv x.s zs ws ≤ rv y.s zs' ws')) = true)) : Calls Try.prog 4 #[.agg #[.bool u.s, .slice u.A u.n u.c, .slice u.B u.m u.d, .bool v.s, .slice v.A v.n v.c, .slice v.B v.m v.d], .agg #[.bool x.s, .slice x.A x.n x.c, .slice x.B x.m x.d, .bool y.s, .slice y.A y.n y.c, .slice y.B y.m y.d], .agg #[.bool t.s, .slice t.A t.n t.c, .slice t.B t.m t.d]] w (fun e w' => e = .returned (.bool true) ∧ Below w.heap.size w w') := by
  have HN := hide hh
  have HA := hide ha
  clear hh ht ha
  have hu_1 := hu.alloc (EV u v)
  have hv_1 := hv.alloc (EV u v)
  have hx_1 := hx.alloc (EV u v)
  have hy_1 := hy.alloc (EV u v)
  have ba_1 : Sv ((w).alloc (EV u v)) (w.heap.size) u v := by have h_ := Sv.new (w) u v; exact h_
  have F1 := (Below.refl w.heap.size w).alloc (Nat.le_refl _) (EV u v)
  have hu_2 := hu_1.alloc (EV x y)
  have hv_2 := hv_1.alloc (EV x y)
  have hx_2 := hx_1.alloc (EV x y)
  have hy_2 := hy_1.alloc (EV x y)
  have ba_2 := ba_1.alloc (EV x y)
  have bb_2 : Sv (((w).alloc (EV u v)).alloc (EV x y)) (w.heap.size + 1) x y := by have h_ := Sv.new ((w).alloc (EV u v)) x y; simp only [World.size_alloc] at h_; exact h_
  have F2 := F1.alloc F1.size (EV x y)
  have hu_3 := hu_2.alloc (EU t)
  have hv_3 := hv_2.alloc (EU t)
  have hx_3 := hx_2.alloc (EU t)
  have hy_3 := hy_2.alloc (EU t)
  have ba_3 := ba_2.alloc (EU t)
  have bb_3 := bb_2.alloc (EU t)
  have bc_3 : Su ((((w).alloc (EV u v)).alloc (EV x y)).alloc (EU t)) (w.heap.size + 2) t := by have h_ := Su.new (((w).alloc (EV u v)).alloc (EV x y)) t; simp only [World.size_alloc] at h_; exact h_
  have F3 := F2.alloc F2.size (EU t)
  go_enter Try.func4, Try.ntmps4
  have ba_u3 := ba_3.cell0
  have ba_v3 := ba_3.cell1
  have ba_w3 := ba_3.cell2
  have ba_x3 := ba_3.cell3
  have ba_y3 := ba_3.cell4
  have ba_z3 := ba_3.cell5
  have bb_u3 := bb_3.cell0
  have bb_v3 := bb_3.cell1
  have bb_w3 := bb_3.cell2
  have bb_x3 := bb_3.cell3
  have bb_y3 := bb_3.cell4
  have bb_z3 := bb_3.cell5
  have bc_u3 := bc_3.cell0
  have bc_v3 := bc_3.cell1
  have bc_w3 := bc_3.cell2
  go_wp2_with fail
  refine (awake6 _).mono ?_
  rintro e w4 ⟨rfl, b4⟩
  have hu_4 := hu_3.below b4
  have hv_4 := hv_3.below b4
  have hx_4 := hx_3.below b4
  have hy_4 := hy_3.below b4
  have ba_4 := ba_3.below b4 ba_3.lt
  have bb_4 := bb_3.below b4 bb_3.lt
  have bc_4 := bc_3.below b4 bc_3.lt
  have F4 := below_then F3 (Nat.le_refl _) b4
  have ba_u4 := ba_4.cell0
  have ba_v4 := ba_4.cell1
  have ba_w4 := ba_4.cell2
  have ba_x4 := ba_4.cell3
  have ba_y4 := ba_4.cell4
  have ba_z4 := ba_4.cell5
  have bb_u4 := bb_4.cell0
  have bb_v4 := bb_4.cell1
  have bb_w4 := bb_4.cell2
  have bb_x4 := bb_4.cell3
  have bb_y4 := bb_4.cell4
  have bb_z4 := bb_4.cell5
  have bc_u4 := bc_4.cell0
  have bc_v4 := bc_4.cell1
  have bc_w4 := bc_4.cell2
  go_wp2_with fail
  refine (small_v _ _ xs ys xs' ys' true _ HA.out.2.2 hu_4 hv_4 HA.out.1 HA.out.2.1).mono ?_
  rintro e w5 ⟨rfl, b5⟩
  have hu_5 := hu_4.below b5
  have hv_5 := hv_4.below b5
  have hx_5 := hx_4.below b5
  have hy_5 := hy_4.below b5
  have ba_5 := ba_4.below b5 ba_4.lt
  have bb_5 := bb_4.below b5 bb_4.lt
  have bc_5 := bc_4.below b5 bc_4.lt
  have F5 := below_then F4 (Nat.le_refl _) b5
  have ba_u5 := ba_5.cell0
  have ba_v5 := ba_5.cell1
  have ba_w5 := ba_5.cell2
  have ba_x5 := ba_5.cell3
  have ba_y5 := ba_5.cell4
  have ba_z5 := ba_5.cell5
  have bb_u5 := bb_5.cell0
  have bb_v5 := bb_5.cell1
  have bb_w5 := bb_5.cell2
  have bb_x5 := bb_5.cell3
  have bb_y5 := bb_5.cell4
  have bb_z5 := bb_5.cell5
  have bc_u5 := bc_5.cell0
  have bc_v5 := bc_5.cell1
  have bc_w5 := bc_5.cell2
  go_wp2_with fail
  refine (small_no _ _ zs ws zs' ws' _ hx_5 hy_5 HN.out).mono ?_
  rintro e w6 ⟨rfl, b6⟩
  have hx_6 := hx_5.below b6
  have hy_6 := hy_5.below b6
  have ba_6 := ba_5.below b6 ba_5.lt
  have bb_6 := bb_5.below b6 bb_5.lt
  have bc_6 := bc_5.below b6 bc_5.lt
  have F6 := below_then F5 (Nat.le_refl _) b6
  have ba_u6 := ba_6.cell0
  have ba_v6 := ba_6.cell1
  have ba_w6 := ba_6.cell2
  have ba_x6 := ba_6.cell3
  have ba_y6 := ba_6.cell4
  have ba_z6 := ba_6.cell5
  have bb_u6 := bb_6.cell0
  have bb_v6 := bb_6.cell1
  have bb_w6 := bb_6.cell2
  have bb_x6 := bb_6.cell3
  have bb_y6 := bb_6.cell4
  have bb_z6 := bb_6.cell5
  have bc_u6 := bc_6.cell0
  have bc_v6 := bc_6.cell1
  have bc_w6 := bc_6.cell2
  go_wp2
  go_ret
  exact ⟨rfl, F6⟩
theorem sm_n3 (u v x y t : Rv) (xs ys xs' ys' zs ws zs' ws' ts ts' : List Nat) (w : World) (hu : Rx w u xs ys) (hv : Rx w v xs' ys') (hx : Rx w x zs ws) (hy : Rx w y zs' ws') (ht : Rx w t ts ts') (ha : (Lu 2 u ∧ Lu 2 v ∧ (isC u.s xs ys && isC v.s xs' ys' && decide (rv u.s xs ys ≤ rv v.s xs' ys')) = true)) (hb : (Lu 2 x ∧ Lu 2 y ∧ (isC x.s zs ws && isC y.s zs' ws' && decide (rv x.s zs ws ≤ rv y.s zs' ws')) = true)) (hh : ¬ Lu 2 t) : Calls Try.prog 4 #[.agg #[.bool u.s, .slice u.A u.n u.c, .slice u.B u.m u.d, .bool v.s, .slice v.A v.n v.c, .slice v.B v.m v.d], .agg #[.bool x.s, .slice x.A x.n x.c, .slice x.B x.m x.d, .bool y.s, .slice y.A y.n y.c, .slice y.B y.m y.d], .agg #[.bool t.s, .slice t.A t.n t.c, .slice t.B t.m t.d]] w (fun e w' => e = .returned (.bool true) ∧ Below w.heap.size w w') := by
  have HN := hide hh
  have HA := hide ha
  have HB := hide hb
  clear hh ht ha hb
  have hu_1 := hu.alloc (EV u v)
  have hv_1 := hv.alloc (EV u v)
  have hx_1 := hx.alloc (EV u v)
  have hy_1 := hy.alloc (EV u v)
  have ba_1 : Sv ((w).alloc (EV u v)) (w.heap.size) u v := by have h_ := Sv.new (w) u v; exact h_
  have F1 := (Below.refl w.heap.size w).alloc (Nat.le_refl _) (EV u v)
  have hu_2 := hu_1.alloc (EV x y)
  have hv_2 := hv_1.alloc (EV x y)
  have hx_2 := hx_1.alloc (EV x y)
  have hy_2 := hy_1.alloc (EV x y)
  have ba_2 := ba_1.alloc (EV x y)
  have bb_2 : Sv (((w).alloc (EV u v)).alloc (EV x y)) (w.heap.size + 1) x y := by have h_ := Sv.new ((w).alloc (EV u v)) x y; simp only [World.size_alloc] at h_; exact h_
  have F2 := F1.alloc F1.size (EV x y)
  have hu_3 := hu_2.alloc (EU t)
  have hv_3 := hv_2.alloc (EU t)
  have hx_3 := hx_2.alloc (EU t)
  have hy_3 := hy_2.alloc (EU t)
  have ba_3 := ba_2.alloc (EU t)
  have bb_3 := bb_2.alloc (EU t)
  have bc_3 : Su ((((w).alloc (EV u v)).alloc (EV x y)).alloc (EU t)) (w.heap.size + 2) t := by have h_ := Su.new (((w).alloc (EV u v)).alloc (EV x y)) t; simp only [World.size_alloc] at h_; exact h_
  have F3 := F2.alloc F2.size (EU t)
  go_enter Try.func4, Try.ntmps4
  have ba_u3 := ba_3.cell0
  have ba_v3 := ba_3.cell1
  have ba_w3 := ba_3.cell2
  have ba_x3 := ba_3.cell3
  have ba_y3 := ba_3.cell4
  have ba_z3 := ba_3.cell5
  have bb_u3 := bb_3.cell0
  have bb_v3 := bb_3.cell1
  have bb_w3 := bb_3.cell2
  have bb_x3 := bb_3.cell3
  have bb_y3 := bb_3.cell4
  have bb_z3 := bb_3.cell5
  have bc_u3 := bc_3.cell0
  have bc_v3 := bc_3.cell1
  have bc_w3 := bc_3.cell2
  go_wp2_with fail
  refine (awake6 _).mono ?_
  rintro e w4 ⟨rfl, b4⟩
  have hu_4 := hu_3.below b4
  have hv_4 := hv_3.below b4
  have hx_4 := hx_3.below b4
  have hy_4 := hy_3.below b4
  have ba_4 := ba_3.below b4 ba_3.lt
  have bb_4 := bb_3.below b4 bb_3.lt
  have bc_4 := bc_3.below b4 bc_3.lt
  have F4 := below_then F3 (Nat.le_refl _) b4
  have ba_u4 := ba_4.cell0
  have ba_v4 := ba_4.cell1
  have ba_w4 := ba_4.cell2
  have ba_x4 := ba_4.cell3
  have ba_y4 := ba_4.cell4
  have ba_z4 := ba_4.cell5
  have bb_u4 := bb_4.cell0
  have bb_v4 := bb_4.cell1
  have bb_w4 := bb_4.cell2
  have bb_x4 := bb_4.cell3
  have bb_y4 := bb_4.cell4
  have bb_z4 := bb_4.cell5
  have bc_u4 := bc_4.cell0
  have bc_v4 := bc_4.cell1
  have bc_w4 := bc_4.cell2
  go_wp2_with fail
  refine (small_v _ _ xs ys xs' ys' true _ HA.out.2.2 hu_4 hv_4 HA.out.1 HA.out.2.1).mono ?_
  rintro e w5 ⟨rfl, b5⟩
  have hu_5 := hu_4.below b5
  have hv_5 := hv_4.below b5
  have hx_5 := hx_4.below b5
  have hy_5 := hy_4.below b5
  have ba_5 := ba_4.below b5 ba_4.lt
  have bb_5 := bb_4.below b5 bb_4.lt
  have bc_5 := bc_4.below b5 bc_4.lt
  have F5 := below_then F4 (Nat.le_refl _) b5
  have ba_u5 := ba_5.cell0
  have ba_v5 := ba_5.cell1
  have ba_w5 := ba_5.cell2
  have ba_x5 := ba_5.cell3
  have ba_y5 := ba_5.cell4
  have ba_z5 := ba_5.cell5
  have bb_u5 := bb_5.cell0
  have bb_v5 := bb_5.cell1
  have bb_w5 := bb_5.cell2
  have bb_x5 := bb_5.cell3
  have bb_y5 := bb_5.cell4
  have bb_z5 := bb_5.cell5
  have bc_u5 := bc_5.cell0
  have bc_v5 := bc_5.cell1
  have bc_w5 := bc_5.cell2
  go_wp2_with fail
  refine (small_v _ _ zs ws zs' ws' true _ HB.out.2.2 hx_5 hy_5 HB.out.1 HB.out.2.1).mono ?_
  rintro e w6 ⟨rfl, b6⟩
  have hx_6 := hx_5.below b6
  have hy_6 := hy_5.below b6
  have ba_6 := ba_5.below b6 ba_5.lt
  have bb_6 := bb_5.below b6 bb_5.lt
  have bc_6 := bc_5.below b6 bc_5.lt
  have F6 := below_then F5 (Nat.le_refl _) b6
  have ba_u6 := ba_6.cell0
  have ba_v6 := ba_6.cell1
  have ba_w6 := ba_6.cell2
  have ba_x6 := ba_6.cell3
  have ba_y6 := ba_6.cell4
  have ba_z6 := ba_6.cell5
  have bb_u6 := bb_6.cell0
  have bb_v6 := bb_6.cell1
  have bb_w6 := bb_6.cell2
  have bb_x6 := bb_6.cell3
  have bb_y6 := bb_6.cell4
  have bb_z6 := bb_6.cell5
  have bc_u6 := bc_6.cell0
  have bc_v6 := bc_6.cell1
  have bc_w6 := bc_6.cell2
  go_wp2_with fail
  refine (short_no _ _ HN.out).mono ?_
  rintro e w7 ⟨rfl, b7⟩
  have ba_7 := ba_6.below b7 ba_6.lt
  have bb_7 := bb_6.below b7 bb_6.lt
  have bc_7 := bc_6.below b7 bc_6.lt
  have F7 := below_then F6 (Nat.le_refl _) b7
  have ba_u7 := ba_7.cell0
  have ba_v7 := ba_7.cell1
  have ba_w7 := ba_7.cell2
  have ba_x7 := ba_7.cell3
  have ba_y7 := ba_7.cell4
  have ba_z7 := ba_7.cell5
  have bb_u7 := bb_7.cell0
  have bb_v7 := bb_7.cell1
  have bb_w7 := bb_7.cell2
  have bb_x7 := bb_7.cell3
  have bb_y7 := bb_7.cell4
  have bb_z7 := bb_7.cell5
  have bc_u7 := bc_7.cell0
  have bc_v7 := bc_7.cell1
  have bc_w7 := bc_7.cell2
  go_wp2
  go_ret
  exact ⟨rfl, F7⟩
set_option maxRecDepth 50000 in
set_option maxHeartbeats 8000000 in
theorem sm_yes (u v x y t : Rv) (xs ys xs' ys' zs ws zs' ws' ts ts' : List Nat) (w : World) (hu : Rx w u xs ys) (hv : Rx w v xs' ys') (hx : Rx w x zs ws) (hy : Rx w y zs' ws') (ht : Rx w t ts ts') (ha : (Lu 2 u ∧ Lu 2 v ∧ (isC u.s xs ys && isC v.s xs' ys' && decide (rv u.s xs ys ≤ rv v.s xs' ys')) = true)) (hb : (Lu 2 x ∧ Lu 2 y ∧ (isC x.s zs ws && isC y.s zs' ws' && decide (rv x.s zs ws ≤ rv y.s zs' ws')) = true)) (hc : Lu 2 t) : Calls Try.prog 4 #[.agg #[.bool u.s, .slice u.A u.n u.c, .slice u.B u.m u.d, .bool v.s, .slice v.A v.n v.c, .slice v.B v.m v.d], .agg #[.bool x.s, .slice x.A x.n x.c, .slice x.B x.m x.d, .bool y.s, .slice y.A y.n y.c, .slice y.B y.m y.d], .agg #[.bool t.s, .slice t.A t.n t.c, .slice t.B t.m t.d]] w (fun e w' => e = .returned (.bool true) ∧ Below w.heap.size w w') := by
  obtain ⟨p, q, ku, kv, hpq, sp2, sq2⟩ := vx_of hu hv ha.1 ha.2.1 ha.2.2
  obtain ⟨p', q', kx, ky, hpq', sp2', sq2'⟩ := vx_of hx hy hb.1 hb.2.1 hb.2.2
  have HA := hide ha
  have HB := hide hb
  have sp := sp2.m (show 2 ≤ 100 by decide)
  have sq := sq2.m (show 2 ≤ 100 by decide)
  have sp' := sp2'.m (show 2 ≤ 100 by decide)
  have sq' := sq2'.m (show 2 ≤ 100 by decide)
  have la := (ku.len sp2).mono (show 2 ≤ 4000 by decide)
  have lc := (kv.len sq2).mono (show 2 ≤ 4000 by decide)
  have lx := (kx.len sp2').mono (show 2 ≤ 4000 by decide)
  have ly := (ky.len sq2').mono (show 2 ≤ 4000 by decide)
  obtain ⟨z, hz⟩ : ∃ z, rv t.s ts ts' = z := ⟨_, rfl⟩
  have kt : Iu w t z := hz ▸ ht.iu
  have sz2 : Qs 2 z := kt.size hc (by decide)
  have lt1 := hc.mono (show 2 ≤ 100 by decide)
  have lt4 := hc.mono (show 2 ≤ 4000 by decide)
  have sz_ := sz2.m (show 2 ≤ 100 by decide)
  obtain ⟨X, hX⟩ : ∃ X, p + (((100 : Int) : Rat) / ((255 : Int) : Rat)) * (q - p) = X := ⟨_, rfl⟩
  obtain ⟨Y, hY⟩ : ∃ Y, p' + (((30 : Int) : Rat) / ((255 : Int) : Rat)) * (q' - p') = Y := ⟨_, rfl⟩
  have o1 : (0 : Int) ≤ 100 ∧ (100 : Int) < 256 := by decide
  have o2 : (0 : Int) ≤ 30 ∧ (30 : Int) < 256 := by decide
  have iX := at_in hpq o1 hX
  have iY := at_in hpq' o2 hY
  have sX := at_size o1 sp2 sq2 hX
  have sY := at_size o2 sp2' sq2' hY
  have c3 := lin_in (c := z) iX.1 iX.2
  obtain ⟨S1, hS1⟩ : ∃ z, p + p' = z := ⟨_, rfl⟩
  obtain ⟨S2, hS2⟩ : ∃ z, q + q' = z := ⟨_, rfl⟩
  obtain ⟨N1, hN1⟩ : ∃ z, -q = z := ⟨_, rfl⟩
  obtain ⟨N2, hN2⟩ : ∃ z, -p = z := ⟨_, rfl⟩
  obtain ⟨M1, hM1⟩ : ∃ y, min (p * z) (q * z) = y := ⟨_, rfl⟩
  obtain ⟨M2, hM2⟩ : ∃ y, max (p * z) (q * z) = y := ⟨_, rfl⟩
  rw [hM1, hM2] at c3
  have c1 : S1 ≤ X + Y ∧ X + Y ≤ S2 := by
    have h1 := iX.1
    have h2 := iX.2
    have h3 := iY.1
    have h4 := iY.2
    rw [← hS1, ← hS2]
    exact ⟨by grind, by grind⟩
  have c2 : N1 ≤ -X ∧ -X ≤ N2 := by
    have h1 := iX.1
    have h2 := iX.2
    rw [← hN1, ← hN2]
    exact ⟨by grind, by grind⟩
  have s1 : Qs 5 S1 := by rw [← hS1]; exact size_add sp2 sp2'
  have s2 : Qs 5 S2 := by rw [← hS2]; exact size_add sq2 sq2'
  have s3 : Qs 2 N1 := by rw [← hN1]; exact qs_neg sq2
  have s4 : Qs 2 N2 := by rw [← hN2]; exact qs_neg sp2
  have u1_ : Qs 4 (p * z) := size_mul sp2 sz2
  have u2_ : Qs 4 (q * z) := size_mul sq2 sz2
  have s5 : Qs 4 M1 := by rw [← hM1]; exact qs_min u1_ u2_
  have s6 : Qs 4 M2 := by rw [← hM2]; exact qs_max u1_ u2_
  have sA : Qs 19 (X + Y) := size_add sX sY
  have sB : Qs 9 (-X) := qs_neg sX
  have sC : Qs 11 (X * z) := size_mul sX sz2
  have HX := hide hX
  have HY := hide hY
  have HS1 := hide hS1
  have HS2 := hide hS2
  have HN1 := hide hN1
  have HN2 := hide hN2
  have HM1 := hide hM1
  have HM2 := hide hM2
  have HC1 := hide (show (decide (S1 ≤ X + Y) && decide (X + Y ≤ S2)) = true by rw [decide_eq_true c1.1, decide_eq_true c1.2]; rfl)
  have HC2 := hide (show (decide (N1 ≤ -X) && decide (-X ≤ N2)) = true by rw [decide_eq_true c2.1, decide_eq_true c2.2]; rfl)
  have HC3 := hide (show (decide (M1 ≤ X * z) && decide (X * z ≤ M2)) = true by rw [decide_eq_true c3.1, decide_eq_true c3.2]; rfl)
  have HL := hide (And.intro (Rat.le_trans c1.1 c1.2) (And.intro (Rat.le_trans c2.1 c2.2) (Rat.le_trans c3.1 c3.2)))
  have HP := hide (And.intro hpq hpq')
  have HO := hide (And.intro o1 o2)
  have v1 := s1.m (show 5 ≤ 100 by decide)
  have v2 := s2.m (show 5 ≤ 100 by decide)
  have v3 := s3.m (show 2 ≤ 100 by decide)
  have v4 := s4.m (show 2 ≤ 100 by decide)
  have v5 := s5.m (show 4 ≤ 100 by decide)
  have v6 := s6.m (show 4 ≤ 100 by decide)
  have v7 := sA.m (show 19 ≤ 100 by decide)
  have v8 := sB.m (show 9 ≤ 100 by decide)
  have v9 := sC.m (show 11 ≤ 100 by decide)
  have p9 := sp2.m (show 2 ≤ 9 by decide)
  have q9 := sq2.m (show 2 ≤ 9 by decide)
  have p9' := sp2'.m (show 2 ≤ 9 by decide)
  have q9' := sq2'.m (show 2 ≤ 9 by decide)
  have k4 : 100 ≤ 4000 := by decide
  have k49 : 9 ≤ 4000 := by decide
  clear ha hb hpq hpq' hz hX hY hS1 hS2 hN1 hN2 hM1 hM2 c1 c2 c3 iX iY o1 o2 s1 s2 s3 s4 s5 s6 sA sB sC u1_ u2_ sp2 sq2 sp2' sq2' sz2 ht
  have hu_1 := hu.alloc (EV u v)
  have hv_1 := hv.alloc (EV u v)
  have hx_1 := hx.alloc (EV u v)
  have hy_1 := hy.alloc (EV u v)
  have ku_1 := ku.alloc (EV u v)
  have kv_1 := kv.alloc (EV u v)
  have kx_1 := kx.alloc (EV u v)
  have ky_1 := ky.alloc (EV u v)
  have kt_1 := kt.alloc (EV u v)
  have ba_1 : Sv ((w).alloc (EV u v)) (w.heap.size) u v := by have h_ := Sv.new (w) u v; exact h_
  have F1 := (Below.refl w.heap.size w).alloc (Nat.le_refl _) (EV u v)
  have hu_2 := hu_1.alloc (EV x y)
  have hv_2 := hv_1.alloc (EV x y)
  have hx_2 := hx_1.alloc (EV x y)
  have hy_2 := hy_1.alloc (EV x y)
  have ku_2 := ku_1.alloc (EV x y)
  have kv_2 := kv_1.alloc (EV x y)
  have kx_2 := kx_1.alloc (EV x y)
  have ky_2 := ky_1.alloc (EV x y)
  have kt_2 := kt_1.alloc (EV x y)
  have ba_2 := ba_1.alloc (EV x y)
  have bb_2 : Sv (((w).alloc (EV u v)).alloc (EV x y)) (w.heap.size + 1) x y := by have h_ := Sv.new ((w).alloc (EV u v)) x y; simp only [World.size_alloc] at h_; exact h_
  have F2 := F1.alloc F1.size (EV x y)
  have hu_3 := hu_2.alloc (EU t)
  have hv_3 := hv_2.alloc (EU t)
  have hx_3 := hx_2.alloc (EU t)
  have hy_3 := hy_2.alloc (EU t)
  have ku_3 := ku_2.alloc (EU t)
  have kv_3 := kv_2.alloc (EU t)
  have kx_3 := kx_2.alloc (EU t)
  have ky_3 := ky_2.alloc (EU t)
  have kt_3 := kt_2.alloc (EU t)
  have ba_3 := ba_2.alloc (EU t)
  have bb_3 := bb_2.alloc (EU t)
  have bc_3 : Su ((((w).alloc (EV u v)).alloc (EV x y)).alloc (EU t)) (w.heap.size + 2) t := by have h_ := Su.new (((w).alloc (EV u v)).alloc (EV x y)) t; simp only [World.size_alloc] at h_; exact h_
  have F3 := F2.alloc F2.size (EU t)
  go_enter Try.func4, Try.ntmps4
  have ba_u3 := ba_3.cell0
  have ba_v3 := ba_3.cell1
  have ba_w3 := ba_3.cell2
  have ba_x3 := ba_3.cell3
  have ba_y3 := ba_3.cell4
  have ba_z3 := ba_3.cell5
  have bb_u3 := bb_3.cell0
  have bb_v3 := bb_3.cell1
  have bb_w3 := bb_3.cell2
  have bb_x3 := bb_3.cell3
  have bb_y3 := bb_3.cell4
  have bb_z3 := bb_3.cell5
  have bc_u3 := bc_3.cell0
  have bc_v3 := bc_3.cell1
  have bc_w3 := bc_3.cell2
  go_wp2_with fail
  refine (awake6 _).mono ?_
  rintro e w4 ⟨rfl, b4⟩
  have hu_4 := hu_3.below b4
  have hv_4 := hv_3.below b4
  have hx_4 := hx_3.below b4
  have hy_4 := hy_3.below b4
  have ku_4 := ku_3.below b4
  have kv_4 := kv_3.below b4
  have kx_4 := kx_3.below b4
  have ky_4 := ky_3.below b4
  have kt_4 := kt_3.below b4
  have ba_4 := ba_3.below b4 ba_3.lt
  have bb_4 := bb_3.below b4 bb_3.lt
  have bc_4 := bc_3.below b4 bc_3.lt
  have F4 := below_then F3 (Nat.le_refl _) b4
  have ba_u4 := ba_4.cell0
  have ba_v4 := ba_4.cell1
  have ba_w4 := ba_4.cell2
  have ba_x4 := ba_4.cell3
  have ba_y4 := ba_4.cell4
  have ba_z4 := ba_4.cell5
  have bb_u4 := bb_4.cell0
  have bb_v4 := bb_4.cell1
  have bb_w4 := bb_4.cell2
  have bb_x4 := bb_4.cell3
  have bb_y4 := bb_4.cell4
  have bb_z4 := bb_4.cell5
  have bc_u4 := bc_4.cell0
  have bc_v4 := bc_4.cell1
  have bc_w4 := bc_4.cell2
  go_wp2_with fail
  refine (small_v _ _ xs ys xs' ys' true _ HA.out.2.2 hu_4 hv_4 HA.out.1 HA.out.2.1).mono ?_
  rintro e w5 ⟨rfl, b5⟩
  have hu_5 := hu_4.below b5
  have hv_5 := hv_4.below b5
  have hx_5 := hx_4.below b5
  have hy_5 := hy_4.below b5
  have ku_5 := ku_4.below b5
  have kv_5 := kv_4.below b5
  have kx_5 := kx_4.below b5
  have ky_5 := ky_4.below b5
  have kt_5 := kt_4.below b5
  have ba_5 := ba_4.below b5 ba_4.lt
  have bb_5 := bb_4.below b5 bb_4.lt
  have bc_5 := bc_4.below b5 bc_4.lt
  have F5 := below_then F4 (Nat.le_refl _) b5
  have ba_u5 := ba_5.cell0
  have ba_v5 := ba_5.cell1
  have ba_w5 := ba_5.cell2
  have ba_x5 := ba_5.cell3
  have ba_y5 := ba_5.cell4
  have ba_z5 := ba_5.cell5
  have bb_u5 := bb_5.cell0
  have bb_v5 := bb_5.cell1
  have bb_w5 := bb_5.cell2
  have bb_x5 := bb_5.cell3
  have bb_y5 := bb_5.cell4
  have bb_z5 := bb_5.cell5
  have bc_u5 := bc_5.cell0
  have bc_v5 := bc_5.cell1
  have bc_w5 := bc_5.cell2
  go_wp2_with fail
  refine (small_v _ _ zs ws zs' ws' true _ HB.out.2.2 hx_5 hy_5 HB.out.1 HB.out.2.1).mono ?_
  rintro e w6 ⟨rfl, b6⟩
  have hx_6 := hx_5.below b6
  have hy_6 := hy_5.below b6
  have ku_6 := ku_5.below b6
  have kv_6 := kv_5.below b6
  have kx_6 := kx_5.below b6
  have ky_6 := ky_5.below b6
  have kt_6 := kt_5.below b6
  have ba_6 := ba_5.below b6 ba_5.lt
  have bb_6 := bb_5.below b6 bb_5.lt
  have bc_6 := bc_5.below b6 bc_5.lt
  have F6 := below_then F5 (Nat.le_refl _) b6
  have ba_u6 := ba_6.cell0
  have ba_v6 := ba_6.cell1
  have ba_w6 := ba_6.cell2
  have ba_x6 := ba_6.cell3
  have ba_y6 := ba_6.cell4
  have ba_z6 := ba_6.cell5
  have bb_u6 := bb_6.cell0
  have bb_v6 := bb_6.cell1
  have bb_w6 := bb_6.cell2
  have bb_x6 := bb_6.cell3
  have bb_y6 := bb_6.cell4
  have bb_z6 := bb_6.cell5
  have bc_u6 := bc_6.cell0
  have bc_v6 := bc_6.cell1
  have bc_w6 := bc_6.cell2
  go_wp2_with fail
  refine (short_yes _ _ hc).mono ?_
  rintro e w7 ⟨rfl, b7⟩
  have ku_7 := ku_6.below b7
  have kv_7 := kv_6.below b7
  have kx_7 := kx_6.below b7
  have ky_7 := ky_6.below b7
  have kt_7 := kt_6.below b7
  have ba_7 := ba_6.below b7 ba_6.lt
  have bb_7 := bb_6.below b7 bb_6.lt
  have bc_7 := bc_6.below b7 bc_6.lt
  have F7 := below_then F6 (Nat.le_refl _) b7
  have ba_u7 := ba_7.cell0
  have ba_v7 := ba_7.cell1
  have ba_w7 := ba_7.cell2
  have ba_x7 := ba_7.cell3
  have ba_y7 := ba_7.cell4
  have ba_z7 := ba_7.cell5
  have bb_u7 := bb_7.cell0
  have bb_v7 := bb_7.cell1
  have bb_w7 := bb_7.cell2
  have bb_x7 := bb_7.cell3
  have bb_y7 := bb_7.cell4
  have bb_z7 := bb_7.cell5
  have bc_u7 := bc_7.cell0
  have bc_v7 := bc_7.cell1
  have bc_w7 := bc_7.cell2
  go_upto_region 5 with fail
  go_cut [7, 8, 9] (fun sx0 sx1 sx2 wy => ∃ (Wqs : World) (gqs gqn gqm : Nat) (qsu qsv qnu qnv qmu qmv : Rv), Wqs = wy ∧ sx0 = .pointer (some ⟨gqs, 0, none⟩) ∧ sx1 = .pointer (some ⟨gqn, 0, none⟩) ∧ sx2 = .pointer (some ⟨gqm, 0, none⟩) ∧ S6 Wqs gqs (.bool qsu.s) (.slice qsu.A qsu.n qsu.c) (.slice qsu.B qsu.m qsu.d) (.bool qsv.s) (.slice qsv.A qsv.n qsv.c) (.slice qsv.B qsv.m qsv.d) ∧ S6 Wqs gqn (.bool qnu.s) (.slice qnu.A qnu.n qnu.c) (.slice qnu.B qnu.m qnu.d) (.bool qnv.s) (.slice qnv.A qnv.n qnv.c) (.slice qnv.B qnv.m qnv.d) ∧ S6 Wqs gqm (.bool qmu.s) (.slice qmu.A qmu.n qmu.c) (.slice qmu.B qmu.m qmu.d) (.bool qmv.s) (.slice qmv.A qmv.n qmv.c) (.slice qmv.B qmv.m qmv.d) ∧ Sv Wqs (w.heap.size) u v ∧ Sv Wqs (w.heap.size + 1) x y ∧ Su Wqs (w.heap.size + 2) t ∧ Cu Wqs u p ∧ Cu Wqs v q ∧ Cu Wqs x p' ∧ Cu Wqs y q' ∧ Iu Wqs t z ∧ Cu Wqs qsu S1 ∧ Cu Wqs qsv S2 ∧ Cu Wqs qnu N1 ∧ Cu Wqs qnv N2 ∧ Cu Wqs qmu M1 ∧ Cu Wqs qmv M2 ∧ Below w.heap.size w Wqs)
  case first =>
    go_wp2_with fail
    have ku_8 := ku_7.drew
    have kv_8 := kv_7.drew
    have kx_8 := kx_7.drew
    have ky_8 := ky_7.drew
    have kt_8 := kt_7.drew
    have ba_8 := ba_7.drew
    have bb_8 := bb_7.drew
    have bc_8 := bc_7.drew
    have F8 := F7.drew
    refine wp_region_held_drew (S := fun w' => w'.cell? ⟨w.heap.size, 0, none⟩ = some (.bool u.s) ∧ w'.cell? ⟨w.heap.size, 1, none⟩ = some (.slice u.A u.n u.c) ∧ w'.cell? ⟨w.heap.size, 2, none⟩ = some (.slice u.B u.m u.d) ∧ w'.cell? ⟨w.heap.size, 3, none⟩ = some (.bool v.s) ∧ w'.cell? ⟨w.heap.size, 4, none⟩ = some (.slice v.A v.n v.c) ∧ w'.cell? ⟨w.heap.size, 5, none⟩ = some (.slice v.B v.m v.d) ∧ w'.cell? ⟨w.heap.size + 1, 0, none⟩ = some (.bool x.s) ∧ w'.cell? ⟨w.heap.size + 1, 1, none⟩ = some (.slice x.A x.n x.c) ∧ w'.cell? ⟨w.heap.size + 1, 2, none⟩ = some (.slice x.B x.m x.d) ∧ w'.cell? ⟨w.heap.size + 1, 3, none⟩ = some (.bool y.s) ∧ w'.cell? ⟨w.heap.size + 1, 4, none⟩ = some (.slice y.A y.n y.c) ∧ w'.cell? ⟨w.heap.size + 1, 5, none⟩ = some (.slice y.B y.m y.d) ∧ w'.cell? ⟨w.heap.size + 2, 0, none⟩ = some (.bool t.s) ∧ w'.cell? ⟨w.heap.size + 2, 1, none⟩ = some (.slice t.A t.n t.c) ∧ w'.cell? ⟨w.heap.size + 2, 2, none⟩ = some (.slice t.B t.m t.d)) (by kernel_rfl) ?_ (fun hHeld => ?_)
    · (try dsimp only); exact ⟨ba_8.cell0, ba_8.cell1, ba_8.cell2, ba_8.cell3, ba_8.cell4, ba_8.cell5, bb_8.cell0, bb_8.cell1, bb_8.cell2, bb_8.cell3, bb_8.cell4, bb_8.cell5, bc_8.cell0, bc_8.cell1, bc_8.cell2⟩
    refine wpAnyH_take (i := 0) (v := ?_) rfl (by kernel_rfl) (by kernel_rfl) (by kernel_rfl) (fun _ _ _ h => h) (Or.inl ⟨by rfl, ?_⟩) (by assumption) ?_
    rotate_left 1
    · (intro w9 hSw; (try dsimp only at hSw); go_simp; try with_reducible rfl)
    try simp only [Act.put, List.getElem_toArray, List.getElem_cons_succ, List.getElem_cons_zero, List.setIfInBounds_toArray, List.set_cons_zero, List.set_cons_succ]
    refine wpAnyH_take (i := 1) (v := ?_) rfl (by kernel_rfl) (by kernel_rfl) (by kernel_rfl) (fun _ _ _ h => h) (Or.inl ⟨by rfl, ?_⟩) (by assumption) ?_
    rotate_left 1
    · (intro w9 hSw; (try dsimp only at hSw); go_simp; try with_reducible rfl)
    try simp only [Act.put, List.getElem_toArray, List.getElem_cons_succ, List.getElem_cons_zero, List.setIfInBounds_toArray, List.set_cons_zero, List.set_cons_succ]
    refine wpAnyH_take (i := 3) (v := ?_) rfl (by kernel_rfl) (by kernel_rfl) (by kernel_rfl) (fun _ _ _ h => h) (Or.inl ⟨by rfl, ?_⟩) (by assumption) ?_
    rotate_left 1
    · (intro w9 hSw; (try dsimp only at hSw); go_simp; try with_reducible rfl)
    try simp only [Act.put, List.getElem_toArray, List.getElem_cons_succ, List.getElem_cons_zero, List.setIfInBounds_toArray, List.set_cons_zero, List.set_cons_succ]
    refine wpAnyH_take (i := 5) (v := ?_) rfl (by kernel_rfl) (by kernel_rfl) (by kernel_rfl) (fun _ _ _ h => h) (Or.inl ⟨by rfl, ?_⟩) (by assumption) ?_
    rotate_left 1
    · (intro w9 hSw; (try dsimp only at hSw); go_simp; try with_reducible rfl)
    try simp only [Act.put, List.getElem_toArray, List.getElem_cons_succ, List.getElem_cons_zero, List.setIfInBounds_toArray, List.set_cons_zero, List.set_cons_succ]
    refine wpAnyH_take (i := 6) (v := ?_) rfl (by kernel_rfl) (by kernel_rfl) (by kernel_rfl) (fun _ _ _ h => h) (Or.inl ⟨by rfl, ?_⟩) (by assumption) ?_
    rotate_left 1
    · (intro w9 hSw; (try dsimp only at hSw); go_simp; try with_reducible rfl)
    try simp only [Act.put, List.getElem_toArray, List.getElem_cons_succ, List.getElem_cons_zero, List.setIfInBounds_toArray, List.set_cons_zero, List.set_cons_succ]
    refine wpAnyH_ind (σ := Bool × Bool × Bool × Nat) (fun s => (if s.1 = true then 0 else 1) + (if s.2.1 = true then 0 else 1) + (if s.2.2.1 = true then 0 else 1) + (3 - s.2.2.2) + 3) (fun s => #[true, true, decide (0 < s.2.2.2), true, decide (1 < s.2.2.2), true, true, decide (2 < s.2.2.2), s.1, s.2.1, s.2.2.1, false, false, false]) (fun a0 s a' w' => (Sv w' (w.heap.size) u v ∧ Sv w' (w.heap.size + 1) x y ∧ Su w' (w.heap.size + 2) t ∧ Cu w' u p ∧ Cu w' v q ∧ Cu w' x p' ∧ Cu w' y q' ∧ Iu w' t z ∧ Below w.heap.size w w') ∧ match s with | (false, false, false, 0) => a' = a0 | (false, false, false, 1) => ∃ (p0 q0 : Rv), a' = (a0.put (some 29) (.agg #[.bool p0.s, .slice p0.A p0.n p0.c, .slice p0.B p0.m p0.d, .bool q0.s, .slice q0.A q0.n q0.c, .slice q0.B q0.m q0.d])) ∧ Cu w' p0 S1 ∧ Cu w' q0 S2 | (false, false, false, 2) => ∃ (p0 q0 : Rv) (p1 q1 : Rv), a' = ((a0.put (some 29) (.agg #[.bool p0.s, .slice p0.A p0.n p0.c, .slice p0.B p0.m p0.d, .bool q0.s, .slice q0.A q0.n q0.c, .slice q0.B q0.m q0.d])).put (some 31) (.agg #[.bool p1.s, .slice p1.A p1.n p1.c, .slice p1.B p1.m p1.d, .bool q1.s, .slice q1.A q1.n q1.c, .slice q1.B q1.m q1.d])) ∧ Cu w' p0 S1 ∧ Cu w' q0 S2 ∧ Cu w' p1 N1 ∧ Cu w' q1 N2 | (false, false, false, 3) => ∃ (p0 q0 : Rv) (p1 q1 : Rv) (p2 q2 : Rv), a' = (((a0.put (some 29) (.agg #[.bool p0.s, .slice p0.A p0.n p0.c, .slice p0.B p0.m p0.d, .bool q0.s, .slice q0.A q0.n q0.c, .slice q0.B q0.m q0.d])).put (some 31) (.agg #[.bool p1.s, .slice p1.A p1.n p1.c, .slice p1.B p1.m p1.d, .bool q1.s, .slice q1.A q1.n q1.c, .slice q1.B q1.m q1.d])).put (some 34) (.agg #[.bool p2.s, .slice p2.A p2.n p2.c, .slice p2.B p2.m p2.d, .bool q2.s, .slice q2.A q2.n q2.c, .slice q2.B q2.m q2.d])) ∧ Cu w' p0 S1 ∧ Cu w' q0 S2 ∧ Cu w' p1 N1 ∧ Cu w' q1 N2 ∧ Cu w' p2 M1 ∧ Cu w' q2 M2 | (false, false, true, 0) => ∃ (h2 : Nat), a' = (a0.put (some 9) (.pointer (some ⟨h2, 0, none⟩))) ∧ S6 w' h2 (.bool false) (.slice none 0 0) (.slice none 0 0) (.bool false) (.slice none 0 0) (.slice none 0 0) ∧ w.heap.size ≤ h2 ∧ w.heap.size ≠ h2 ∧ w.heap.size + 1 ≠ h2 ∧ w.heap.size + 2 ≠ h2 | (false, false, true, 1) => ∃ (h2 : Nat) (p0 q0 : Rv), a' = ((a0.put (some 9) (.pointer (some ⟨h2, 0, none⟩))).put (some 29) (.agg #[.bool p0.s, .slice p0.A p0.n p0.c, .slice p0.B p0.m p0.d, .bool q0.s, .slice q0.A q0.n q0.c, .slice q0.B q0.m q0.d])) ∧ S6 w' h2 (.bool false) (.slice none 0 0) (.slice none 0 0) (.bool false) (.slice none 0 0) (.slice none 0 0) ∧ w.heap.size ≤ h2 ∧ w.heap.size ≠ h2 ∧ w.heap.size + 1 ≠ h2 ∧ w.heap.size + 2 ≠ h2 ∧ Cu w' p0 S1 ∧ Cu w' q0 S2 | (false, false, true, 2) => ∃ (h2 : Nat) (p0 q0 : Rv) (p1 q1 : Rv), a' = (((a0.put (some 9) (.pointer (some ⟨h2, 0, none⟩))).put (some 29) (.agg #[.bool p0.s, .slice p0.A p0.n p0.c, .slice p0.B p0.m p0.d, .bool q0.s, .slice q0.A q0.n q0.c, .slice q0.B q0.m q0.d])).put (some 31) (.agg #[.bool p1.s, .slice p1.A p1.n p1.c, .slice p1.B p1.m p1.d, .bool q1.s, .slice q1.A q1.n q1.c, .slice q1.B q1.m q1.d])) ∧ S6 w' h2 (.bool false) (.slice none 0 0) (.slice none 0 0) (.bool false) (.slice none 0 0) (.slice none 0 0) ∧ w.heap.size ≤ h2 ∧ w.heap.size ≠ h2 ∧ w.heap.size + 1 ≠ h2 ∧ w.heap.size + 2 ≠ h2 ∧ Cu w' p0 S1 ∧ Cu w' q0 S2 ∧ Cu w' p1 N1 ∧ Cu w' q1 N2 | (false, false, true, 3) => ∃ (h2 : Nat) (p0 q0 : Rv) (p1 q1 : Rv) (p2 q2 : Rv), a' = ((((a0.put (some 9) (.pointer (some ⟨h2, 0, none⟩))).put (some 29) (.agg #[.bool p0.s, .slice p0.A p0.n p0.c, .slice p0.B p0.m p0.d, .bool q0.s, .slice q0.A q0.n q0.c, .slice q0.B q0.m q0.d])).put (some 31) (.agg #[.bool p1.s, .slice p1.A p1.n p1.c, .slice p1.B p1.m p1.d, .bool q1.s, .slice q1.A q1.n q1.c, .slice q1.B q1.m q1.d])).put (some 34) (.agg #[.bool p2.s, .slice p2.A p2.n p2.c, .slice p2.B p2.m p2.d, .bool q2.s, .slice q2.A q2.n q2.c, .slice q2.B q2.m q2.d])) ∧ S6 w' h2 (.bool false) (.slice none 0 0) (.slice none 0 0) (.bool false) (.slice none 0 0) (.slice none 0 0) ∧ w.heap.size ≤ h2 ∧ w.heap.size ≠ h2 ∧ w.heap.size + 1 ≠ h2 ∧ w.heap.size + 2 ≠ h2 ∧ Cu w' p0 S1 ∧ Cu w' q0 S2 ∧ Cu w' p1 N1 ∧ Cu w' q1 N2 ∧ Cu w' p2 M1 ∧ Cu w' q2 M2 | (false, true, false, 0) => ∃ (h1 : Nat), a' = (a0.put (some 8) (.pointer (some ⟨h1, 0, none⟩))) ∧ S6 w' h1 (.bool false) (.slice none 0 0) (.slice none 0 0) (.bool false) (.slice none 0 0) (.slice none 0 0) ∧ w.heap.size ≤ h1 ∧ w.heap.size ≠ h1 ∧ w.heap.size + 1 ≠ h1 ∧ w.heap.size + 2 ≠ h1 | (false, true, false, 1) => ∃ (h1 : Nat) (p0 q0 : Rv), a' = ((a0.put (some 8) (.pointer (some ⟨h1, 0, none⟩))).put (some 29) (.agg #[.bool p0.s, .slice p0.A p0.n p0.c, .slice p0.B p0.m p0.d, .bool q0.s, .slice q0.A q0.n q0.c, .slice q0.B q0.m q0.d])) ∧ S6 w' h1 (.bool false) (.slice none 0 0) (.slice none 0 0) (.bool false) (.slice none 0 0) (.slice none 0 0) ∧ w.heap.size ≤ h1 ∧ w.heap.size ≠ h1 ∧ w.heap.size + 1 ≠ h1 ∧ w.heap.size + 2 ≠ h1 ∧ Cu w' p0 S1 ∧ Cu w' q0 S2 | (false, true, false, 2) => ∃ (h1 : Nat) (p0 q0 : Rv) (p1 q1 : Rv), a' = (((a0.put (some 8) (.pointer (some ⟨h1, 0, none⟩))).put (some 29) (.agg #[.bool p0.s, .slice p0.A p0.n p0.c, .slice p0.B p0.m p0.d, .bool q0.s, .slice q0.A q0.n q0.c, .slice q0.B q0.m q0.d])).put (some 31) (.agg #[.bool p1.s, .slice p1.A p1.n p1.c, .slice p1.B p1.m p1.d, .bool q1.s, .slice q1.A q1.n q1.c, .slice q1.B q1.m q1.d])) ∧ S6 w' h1 (.bool false) (.slice none 0 0) (.slice none 0 0) (.bool false) (.slice none 0 0) (.slice none 0 0) ∧ w.heap.size ≤ h1 ∧ w.heap.size ≠ h1 ∧ w.heap.size + 1 ≠ h1 ∧ w.heap.size + 2 ≠ h1 ∧ Cu w' p0 S1 ∧ Cu w' q0 S2 ∧ Cu w' p1 N1 ∧ Cu w' q1 N2 | (false, true, false, 3) => ∃ (h1 : Nat) (p0 q0 : Rv) (p1 q1 : Rv) (p2 q2 : Rv), a' = ((((a0.put (some 8) (.pointer (some ⟨h1, 0, none⟩))).put (some 29) (.agg #[.bool p0.s, .slice p0.A p0.n p0.c, .slice p0.B p0.m p0.d, .bool q0.s, .slice q0.A q0.n q0.c, .slice q0.B q0.m q0.d])).put (some 31) (.agg #[.bool p1.s, .slice p1.A p1.n p1.c, .slice p1.B p1.m p1.d, .bool q1.s, .slice q1.A q1.n q1.c, .slice q1.B q1.m q1.d])).put (some 34) (.agg #[.bool p2.s, .slice p2.A p2.n p2.c, .slice p2.B p2.m p2.d, .bool q2.s, .slice q2.A q2.n q2.c, .slice q2.B q2.m q2.d])) ∧ S6 w' h1 (.bool false) (.slice none 0 0) (.slice none 0 0) (.bool false) (.slice none 0 0) (.slice none 0 0) ∧ w.heap.size ≤ h1 ∧ w.heap.size ≠ h1 ∧ w.heap.size + 1 ≠ h1 ∧ w.heap.size + 2 ≠ h1 ∧ Cu w' p0 S1 ∧ Cu w' q0 S2 ∧ Cu w' p1 N1 ∧ Cu w' q1 N2 ∧ Cu w' p2 M1 ∧ Cu w' q2 M2 | (false, true, true, 0) => ∃ (h1 : Nat) (h2 : Nat), a' = ((a0.put (some 8) (.pointer (some ⟨h1, 0, none⟩))).put (some 9) (.pointer (some ⟨h2, 0, none⟩))) ∧ S6 w' h1 (.bool false) (.slice none 0 0) (.slice none 0 0) (.bool false) (.slice none 0 0) (.slice none 0 0) ∧ w.heap.size ≤ h1 ∧ w.heap.size ≠ h1 ∧ w.heap.size + 1 ≠ h1 ∧ w.heap.size + 2 ≠ h1 ∧ S6 w' h2 (.bool false) (.slice none 0 0) (.slice none 0 0) (.bool false) (.slice none 0 0) (.slice none 0 0) ∧ w.heap.size ≤ h2 ∧ w.heap.size ≠ h2 ∧ w.heap.size + 1 ≠ h2 ∧ w.heap.size + 2 ≠ h2 ∧ h1 ≠ h2 | (false, true, true, 1) => ∃ (h1 : Nat) (h2 : Nat) (p0 q0 : Rv), a' = (((a0.put (some 8) (.pointer (some ⟨h1, 0, none⟩))).put (some 9) (.pointer (some ⟨h2, 0, none⟩))).put (some 29) (.agg #[.bool p0.s, .slice p0.A p0.n p0.c, .slice p0.B p0.m p0.d, .bool q0.s, .slice q0.A q0.n q0.c, .slice q0.B q0.m q0.d])) ∧ S6 w' h1 (.bool false) (.slice none 0 0) (.slice none 0 0) (.bool false) (.slice none 0 0) (.slice none 0 0) ∧ w.heap.size ≤ h1 ∧ w.heap.size ≠ h1 ∧ w.heap.size + 1 ≠ h1 ∧ w.heap.size + 2 ≠ h1 ∧ S6 w' h2 (.bool false) (.slice none 0 0) (.slice none 0 0) (.bool false) (.slice none 0 0) (.slice none 0 0) ∧ w.heap.size ≤ h2 ∧ w.heap.size ≠ h2 ∧ w.heap.size + 1 ≠ h2 ∧ w.heap.size + 2 ≠ h2 ∧ h1 ≠ h2 ∧ Cu w' p0 S1 ∧ Cu w' q0 S2 | (false, true, true, 2) => ∃ (h1 : Nat) (h2 : Nat) (p0 q0 : Rv) (p1 q1 : Rv), a' = ((((a0.put (some 8) (.pointer (some ⟨h1, 0, none⟩))).put (some 9) (.pointer (some ⟨h2, 0, none⟩))).put (some 29) (.agg #[.bool p0.s, .slice p0.A p0.n p0.c, .slice p0.B p0.m p0.d, .bool q0.s, .slice q0.A q0.n q0.c, .slice q0.B q0.m q0.d])).put (some 31) (.agg #[.bool p1.s, .slice p1.A p1.n p1.c, .slice p1.B p1.m p1.d, .bool q1.s, .slice q1.A q1.n q1.c, .slice q1.B q1.m q1.d])) ∧ S6 w' h1 (.bool false) (.slice none 0 0) (.slice none 0 0) (.bool false) (.slice none 0 0) (.slice none 0 0) ∧ w.heap.size ≤ h1 ∧ w.heap.size ≠ h1 ∧ w.heap.size + 1 ≠ h1 ∧ w.heap.size + 2 ≠ h1 ∧ S6 w' h2 (.bool false) (.slice none 0 0) (.slice none 0 0) (.bool false) (.slice none 0 0) (.slice none 0 0) ∧ w.heap.size ≤ h2 ∧ w.heap.size ≠ h2 ∧ w.heap.size + 1 ≠ h2 ∧ w.heap.size + 2 ≠ h2 ∧ h1 ≠ h2 ∧ Cu w' p0 S1 ∧ Cu w' q0 S2 ∧ Cu w' p1 N1 ∧ Cu w' q1 N2 | (false, true, true, 3) => ∃ (h1 : Nat) (h2 : Nat) (p0 q0 : Rv) (p1 q1 : Rv) (p2 q2 : Rv), a' = (((((a0.put (some 8) (.pointer (some ⟨h1, 0, none⟩))).put (some 9) (.pointer (some ⟨h2, 0, none⟩))).put (some 29) (.agg #[.bool p0.s, .slice p0.A p0.n p0.c, .slice p0.B p0.m p0.d, .bool q0.s, .slice q0.A q0.n q0.c, .slice q0.B q0.m q0.d])).put (some 31) (.agg #[.bool p1.s, .slice p1.A p1.n p1.c, .slice p1.B p1.m p1.d, .bool q1.s, .slice q1.A q1.n q1.c, .slice q1.B q1.m q1.d])).put (some 34) (.agg #[.bool p2.s, .slice p2.A p2.n p2.c, .slice p2.B p2.m p2.d, .bool q2.s, .slice q2.A q2.n q2.c, .slice q2.B q2.m q2.d])) ∧ S6 w' h1 (.bool false) (.slice none 0 0) (.slice none 0 0) (.bool false) (.slice none 0 0) (.slice none 0 0) ∧ w.heap.size ≤ h1 ∧ w.heap.size ≠ h1 ∧ w.heap.size + 1 ≠ h1 ∧ w.heap.size + 2 ≠ h1 ∧ S6 w' h2 (.bool false) (.slice none 0 0) (.slice none 0 0) (.bool false) (.slice none 0 0) (.slice none 0 0) ∧ w.heap.size ≤ h2 ∧ w.heap.size ≠ h2 ∧ w.heap.size + 1 ≠ h2 ∧ w.heap.size + 2 ≠ h2 ∧ h1 ≠ h2 ∧ Cu w' p0 S1 ∧ Cu w' q0 S2 ∧ Cu w' p1 N1 ∧ Cu w' q1 N2 ∧ Cu w' p2 M1 ∧ Cu w' q2 M2 | (true, false, false, 0) => ∃ (h0 : Nat), a' = (a0.put (some 7) (.pointer (some ⟨h0, 0, none⟩))) ∧ S6 w' h0 (.bool false) (.slice none 0 0) (.slice none 0 0) (.bool false) (.slice none 0 0) (.slice none 0 0) ∧ w.heap.size ≤ h0 ∧ w.heap.size ≠ h0 ∧ w.heap.size + 1 ≠ h0 ∧ w.heap.size + 2 ≠ h0 | (true, false, false, 1) => ∃ (h0 : Nat) (p0 q0 : Rv), a' = ((a0.put (some 7) (.pointer (some ⟨h0, 0, none⟩))).put (some 29) (.agg #[.bool p0.s, .slice p0.A p0.n p0.c, .slice p0.B p0.m p0.d, .bool q0.s, .slice q0.A q0.n q0.c, .slice q0.B q0.m q0.d])) ∧ S6 w' h0 (.bool false) (.slice none 0 0) (.slice none 0 0) (.bool false) (.slice none 0 0) (.slice none 0 0) ∧ w.heap.size ≤ h0 ∧ w.heap.size ≠ h0 ∧ w.heap.size + 1 ≠ h0 ∧ w.heap.size + 2 ≠ h0 ∧ Cu w' p0 S1 ∧ Cu w' q0 S2 | (true, false, false, 2) => ∃ (h0 : Nat) (p0 q0 : Rv) (p1 q1 : Rv), a' = (((a0.put (some 7) (.pointer (some ⟨h0, 0, none⟩))).put (some 29) (.agg #[.bool p0.s, .slice p0.A p0.n p0.c, .slice p0.B p0.m p0.d, .bool q0.s, .slice q0.A q0.n q0.c, .slice q0.B q0.m q0.d])).put (some 31) (.agg #[.bool p1.s, .slice p1.A p1.n p1.c, .slice p1.B p1.m p1.d, .bool q1.s, .slice q1.A q1.n q1.c, .slice q1.B q1.m q1.d])) ∧ S6 w' h0 (.bool false) (.slice none 0 0) (.slice none 0 0) (.bool false) (.slice none 0 0) (.slice none 0 0) ∧ w.heap.size ≤ h0 ∧ w.heap.size ≠ h0 ∧ w.heap.size + 1 ≠ h0 ∧ w.heap.size + 2 ≠ h0 ∧ Cu w' p0 S1 ∧ Cu w' q0 S2 ∧ Cu w' p1 N1 ∧ Cu w' q1 N2 | (true, false, false, 3) => ∃ (h0 : Nat) (p0 q0 : Rv) (p1 q1 : Rv) (p2 q2 : Rv), a' = ((((a0.put (some 7) (.pointer (some ⟨h0, 0, none⟩))).put (some 29) (.agg #[.bool p0.s, .slice p0.A p0.n p0.c, .slice p0.B p0.m p0.d, .bool q0.s, .slice q0.A q0.n q0.c, .slice q0.B q0.m q0.d])).put (some 31) (.agg #[.bool p1.s, .slice p1.A p1.n p1.c, .slice p1.B p1.m p1.d, .bool q1.s, .slice q1.A q1.n q1.c, .slice q1.B q1.m q1.d])).put (some 34) (.agg #[.bool p2.s, .slice p2.A p2.n p2.c, .slice p2.B p2.m p2.d, .bool q2.s, .slice q2.A q2.n q2.c, .slice q2.B q2.m q2.d])) ∧ S6 w' h0 (.bool false) (.slice none 0 0) (.slice none 0 0) (.bool false) (.slice none 0 0) (.slice none 0 0) ∧ w.heap.size ≤ h0 ∧ w.heap.size ≠ h0 ∧ w.heap.size + 1 ≠ h0 ∧ w.heap.size + 2 ≠ h0 ∧ Cu w' p0 S1 ∧ Cu w' q0 S2 ∧ Cu w' p1 N1 ∧ Cu w' q1 N2 ∧ Cu w' p2 M1 ∧ Cu w' q2 M2 | (true, false, true, 0) => ∃ (h0 : Nat) (h2 : Nat), a' = ((a0.put (some 7) (.pointer (some ⟨h0, 0, none⟩))).put (some 9) (.pointer (some ⟨h2, 0, none⟩))) ∧ S6 w' h0 (.bool false) (.slice none 0 0) (.slice none 0 0) (.bool false) (.slice none 0 0) (.slice none 0 0) ∧ w.heap.size ≤ h0 ∧ w.heap.size ≠ h0 ∧ w.heap.size + 1 ≠ h0 ∧ w.heap.size + 2 ≠ h0 ∧ S6 w' h2 (.bool false) (.slice none 0 0) (.slice none 0 0) (.bool false) (.slice none 0 0) (.slice none 0 0) ∧ w.heap.size ≤ h2 ∧ w.heap.size ≠ h2 ∧ w.heap.size + 1 ≠ h2 ∧ w.heap.size + 2 ≠ h2 ∧ h0 ≠ h2 | (true, false, true, 1) => ∃ (h0 : Nat) (h2 : Nat) (p0 q0 : Rv), a' = (((a0.put (some 7) (.pointer (some ⟨h0, 0, none⟩))).put (some 9) (.pointer (some ⟨h2, 0, none⟩))).put (some 29) (.agg #[.bool p0.s, .slice p0.A p0.n p0.c, .slice p0.B p0.m p0.d, .bool q0.s, .slice q0.A q0.n q0.c, .slice q0.B q0.m q0.d])) ∧ S6 w' h0 (.bool false) (.slice none 0 0) (.slice none 0 0) (.bool false) (.slice none 0 0) (.slice none 0 0) ∧ w.heap.size ≤ h0 ∧ w.heap.size ≠ h0 ∧ w.heap.size + 1 ≠ h0 ∧ w.heap.size + 2 ≠ h0 ∧ S6 w' h2 (.bool false) (.slice none 0 0) (.slice none 0 0) (.bool false) (.slice none 0 0) (.slice none 0 0) ∧ w.heap.size ≤ h2 ∧ w.heap.size ≠ h2 ∧ w.heap.size + 1 ≠ h2 ∧ w.heap.size + 2 ≠ h2 ∧ h0 ≠ h2 ∧ Cu w' p0 S1 ∧ Cu w' q0 S2 | (true, false, true, 2) => ∃ (h0 : Nat) (h2 : Nat) (p0 q0 : Rv) (p1 q1 : Rv), a' = ((((a0.put (some 7) (.pointer (some ⟨h0, 0, none⟩))).put (some 9) (.pointer (some ⟨h2, 0, none⟩))).put (some 29) (.agg #[.bool p0.s, .slice p0.A p0.n p0.c, .slice p0.B p0.m p0.d, .bool q0.s, .slice q0.A q0.n q0.c, .slice q0.B q0.m q0.d])).put (some 31) (.agg #[.bool p1.s, .slice p1.A p1.n p1.c, .slice p1.B p1.m p1.d, .bool q1.s, .slice q1.A q1.n q1.c, .slice q1.B q1.m q1.d])) ∧ S6 w' h0 (.bool false) (.slice none 0 0) (.slice none 0 0) (.bool false) (.slice none 0 0) (.slice none 0 0) ∧ w.heap.size ≤ h0 ∧ w.heap.size ≠ h0 ∧ w.heap.size + 1 ≠ h0 ∧ w.heap.size + 2 ≠ h0 ∧ S6 w' h2 (.bool false) (.slice none 0 0) (.slice none 0 0) (.bool false) (.slice none 0 0) (.slice none 0 0) ∧ w.heap.size ≤ h2 ∧ w.heap.size ≠ h2 ∧ w.heap.size + 1 ≠ h2 ∧ w.heap.size + 2 ≠ h2 ∧ h0 ≠ h2 ∧ Cu w' p0 S1 ∧ Cu w' q0 S2 ∧ Cu w' p1 N1 ∧ Cu w' q1 N2 | (true, false, true, 3) => ∃ (h0 : Nat) (h2 : Nat) (p0 q0 : Rv) (p1 q1 : Rv) (p2 q2 : Rv), a' = (((((a0.put (some 7) (.pointer (some ⟨h0, 0, none⟩))).put (some 9) (.pointer (some ⟨h2, 0, none⟩))).put (some 29) (.agg #[.bool p0.s, .slice p0.A p0.n p0.c, .slice p0.B p0.m p0.d, .bool q0.s, .slice q0.A q0.n q0.c, .slice q0.B q0.m q0.d])).put (some 31) (.agg #[.bool p1.s, .slice p1.A p1.n p1.c, .slice p1.B p1.m p1.d, .bool q1.s, .slice q1.A q1.n q1.c, .slice q1.B q1.m q1.d])).put (some 34) (.agg #[.bool p2.s, .slice p2.A p2.n p2.c, .slice p2.B p2.m p2.d, .bool q2.s, .slice q2.A q2.n q2.c, .slice q2.B q2.m q2.d])) ∧ S6 w' h0 (.bool false) (.slice none 0 0) (.slice none 0 0) (.bool false) (.slice none 0 0) (.slice none 0 0) ∧ w.heap.size ≤ h0 ∧ w.heap.size ≠ h0 ∧ w.heap.size + 1 ≠ h0 ∧ w.heap.size + 2 ≠ h0 ∧ S6 w' h2 (.bool false) (.slice none 0 0) (.slice none 0 0) (.bool false) (.slice none 0 0) (.slice none 0 0) ∧ w.heap.size ≤ h2 ∧ w.heap.size ≠ h2 ∧ w.heap.size + 1 ≠ h2 ∧ w.heap.size + 2 ≠ h2 ∧ h0 ≠ h2 ∧ Cu w' p0 S1 ∧ Cu w' q0 S2 ∧ Cu w' p1 N1 ∧ Cu w' q1 N2 ∧ Cu w' p2 M1 ∧ Cu w' q2 M2 | (true, true, false, 0) => ∃ (h0 : Nat) (h1 : Nat), a' = ((a0.put (some 7) (.pointer (some ⟨h0, 0, none⟩))).put (some 8) (.pointer (some ⟨h1, 0, none⟩))) ∧ S6 w' h0 (.bool false) (.slice none 0 0) (.slice none 0 0) (.bool false) (.slice none 0 0) (.slice none 0 0) ∧ w.heap.size ≤ h0 ∧ w.heap.size ≠ h0 ∧ w.heap.size + 1 ≠ h0 ∧ w.heap.size + 2 ≠ h0 ∧ S6 w' h1 (.bool false) (.slice none 0 0) (.slice none 0 0) (.bool false) (.slice none 0 0) (.slice none 0 0) ∧ w.heap.size ≤ h1 ∧ w.heap.size ≠ h1 ∧ w.heap.size + 1 ≠ h1 ∧ w.heap.size + 2 ≠ h1 ∧ h0 ≠ h1 | (true, true, false, 1) => ∃ (h0 : Nat) (h1 : Nat) (p0 q0 : Rv), a' = (((a0.put (some 7) (.pointer (some ⟨h0, 0, none⟩))).put (some 8) (.pointer (some ⟨h1, 0, none⟩))).put (some 29) (.agg #[.bool p0.s, .slice p0.A p0.n p0.c, .slice p0.B p0.m p0.d, .bool q0.s, .slice q0.A q0.n q0.c, .slice q0.B q0.m q0.d])) ∧ S6 w' h0 (.bool false) (.slice none 0 0) (.slice none 0 0) (.bool false) (.slice none 0 0) (.slice none 0 0) ∧ w.heap.size ≤ h0 ∧ w.heap.size ≠ h0 ∧ w.heap.size + 1 ≠ h0 ∧ w.heap.size + 2 ≠ h0 ∧ S6 w' h1 (.bool false) (.slice none 0 0) (.slice none 0 0) (.bool false) (.slice none 0 0) (.slice none 0 0) ∧ w.heap.size ≤ h1 ∧ w.heap.size ≠ h1 ∧ w.heap.size + 1 ≠ h1 ∧ w.heap.size + 2 ≠ h1 ∧ h0 ≠ h1 ∧ Cu w' p0 S1 ∧ Cu w' q0 S2 | (true, true, false, 2) => ∃ (h0 : Nat) (h1 : Nat) (p0 q0 : Rv) (p1 q1 : Rv), a' = ((((a0.put (some 7) (.pointer (some ⟨h0, 0, none⟩))).put (some 8) (.pointer (some ⟨h1, 0, none⟩))).put (some 29) (.agg #[.bool p0.s, .slice p0.A p0.n p0.c, .slice p0.B p0.m p0.d, .bool q0.s, .slice q0.A q0.n q0.c, .slice q0.B q0.m q0.d])).put (some 31) (.agg #[.bool p1.s, .slice p1.A p1.n p1.c, .slice p1.B p1.m p1.d, .bool q1.s, .slice q1.A q1.n q1.c, .slice q1.B q1.m q1.d])) ∧ S6 w' h0 (.bool false) (.slice none 0 0) (.slice none 0 0) (.bool false) (.slice none 0 0) (.slice none 0 0) ∧ w.heap.size ≤ h0 ∧ w.heap.size ≠ h0 ∧ w.heap.size + 1 ≠ h0 ∧ w.heap.size + 2 ≠ h0 ∧ S6 w' h1 (.bool false) (.slice none 0 0) (.slice none 0 0) (.bool false) (.slice none 0 0) (.slice none 0 0) ∧ w.heap.size ≤ h1 ∧ w.heap.size ≠ h1 ∧ w.heap.size + 1 ≠ h1 ∧ w.heap.size + 2 ≠ h1 ∧ h0 ≠ h1 ∧ Cu w' p0 S1 ∧ Cu w' q0 S2 ∧ Cu w' p1 N1 ∧ Cu w' q1 N2 | (true, true, false, 3) => ∃ (h0 : Nat) (h1 : Nat) (p0 q0 : Rv) (p1 q1 : Rv) (p2 q2 : Rv), a' = (((((a0.put (some 7) (.pointer (some ⟨h0, 0, none⟩))).put (some 8) (.pointer (some ⟨h1, 0, none⟩))).put (some 29) (.agg #[.bool p0.s, .slice p0.A p0.n p0.c, .slice p0.B p0.m p0.d, .bool q0.s, .slice q0.A q0.n q0.c, .slice q0.B q0.m q0.d])).put (some 31) (.agg #[.bool p1.s, .slice p1.A p1.n p1.c, .slice p1.B p1.m p1.d, .bool q1.s, .slice q1.A q1.n q1.c, .slice q1.B q1.m q1.d])).put (some 34) (.agg #[.bool p2.s, .slice p2.A p2.n p2.c, .slice p2.B p2.m p2.d, .bool q2.s, .slice q2.A q2.n q2.c, .slice q2.B q2.m q2.d])) ∧ S6 w' h0 (.bool false) (.slice none 0 0) (.slice none 0 0) (.bool false) (.slice none 0 0) (.slice none 0 0) ∧ w.heap.size ≤ h0 ∧ w.heap.size ≠ h0 ∧ w.heap.size + 1 ≠ h0 ∧ w.heap.size + 2 ≠ h0 ∧ S6 w' h1 (.bool false) (.slice none 0 0) (.slice none 0 0) (.bool false) (.slice none 0 0) (.slice none 0 0) ∧ w.heap.size ≤ h1 ∧ w.heap.size ≠ h1 ∧ w.heap.size + 1 ≠ h1 ∧ w.heap.size + 2 ≠ h1 ∧ h0 ≠ h1 ∧ Cu w' p0 S1 ∧ Cu w' q0 S2 ∧ Cu w' p1 N1 ∧ Cu w' q1 N2 ∧ Cu w' p2 M1 ∧ Cu w' q2 M2 | (true, true, true, 0) => ∃ (h0 : Nat) (h1 : Nat) (h2 : Nat), a' = (((a0.put (some 7) (.pointer (some ⟨h0, 0, none⟩))).put (some 8) (.pointer (some ⟨h1, 0, none⟩))).put (some 9) (.pointer (some ⟨h2, 0, none⟩))) ∧ S6 w' h0 (.bool false) (.slice none 0 0) (.slice none 0 0) (.bool false) (.slice none 0 0) (.slice none 0 0) ∧ w.heap.size ≤ h0 ∧ w.heap.size ≠ h0 ∧ w.heap.size + 1 ≠ h0 ∧ w.heap.size + 2 ≠ h0 ∧ S6 w' h1 (.bool false) (.slice none 0 0) (.slice none 0 0) (.bool false) (.slice none 0 0) (.slice none 0 0) ∧ w.heap.size ≤ h1 ∧ w.heap.size ≠ h1 ∧ w.heap.size + 1 ≠ h1 ∧ w.heap.size + 2 ≠ h1 ∧ h0 ≠ h1 ∧ S6 w' h2 (.bool false) (.slice none 0 0) (.slice none 0 0) (.bool false) (.slice none 0 0) (.slice none 0 0) ∧ w.heap.size ≤ h2 ∧ w.heap.size ≠ h2 ∧ w.heap.size + 1 ≠ h2 ∧ w.heap.size + 2 ≠ h2 ∧ h0 ≠ h2 ∧ h1 ≠ h2 | (true, true, true, 1) => ∃ (h0 : Nat) (h1 : Nat) (h2 : Nat) (p0 q0 : Rv), a' = ((((a0.put (some 7) (.pointer (some ⟨h0, 0, none⟩))).put (some 8) (.pointer (some ⟨h1, 0, none⟩))).put (some 9) (.pointer (some ⟨h2, 0, none⟩))).put (some 29) (.agg #[.bool p0.s, .slice p0.A p0.n p0.c, .slice p0.B p0.m p0.d, .bool q0.s, .slice q0.A q0.n q0.c, .slice q0.B q0.m q0.d])) ∧ S6 w' h0 (.bool false) (.slice none 0 0) (.slice none 0 0) (.bool false) (.slice none 0 0) (.slice none 0 0) ∧ w.heap.size ≤ h0 ∧ w.heap.size ≠ h0 ∧ w.heap.size + 1 ≠ h0 ∧ w.heap.size + 2 ≠ h0 ∧ S6 w' h1 (.bool false) (.slice none 0 0) (.slice none 0 0) (.bool false) (.slice none 0 0) (.slice none 0 0) ∧ w.heap.size ≤ h1 ∧ w.heap.size ≠ h1 ∧ w.heap.size + 1 ≠ h1 ∧ w.heap.size + 2 ≠ h1 ∧ h0 ≠ h1 ∧ S6 w' h2 (.bool false) (.slice none 0 0) (.slice none 0 0) (.bool false) (.slice none 0 0) (.slice none 0 0) ∧ w.heap.size ≤ h2 ∧ w.heap.size ≠ h2 ∧ w.heap.size + 1 ≠ h2 ∧ w.heap.size + 2 ≠ h2 ∧ h0 ≠ h2 ∧ h1 ≠ h2 ∧ Cu w' p0 S1 ∧ Cu w' q0 S2 | (true, true, true, 2) => ∃ (h0 : Nat) (h1 : Nat) (h2 : Nat) (p0 q0 : Rv) (p1 q1 : Rv), a' = (((((a0.put (some 7) (.pointer (some ⟨h0, 0, none⟩))).put (some 8) (.pointer (some ⟨h1, 0, none⟩))).put (some 9) (.pointer (some ⟨h2, 0, none⟩))).put (some 29) (.agg #[.bool p0.s, .slice p0.A p0.n p0.c, .slice p0.B p0.m p0.d, .bool q0.s, .slice q0.A q0.n q0.c, .slice q0.B q0.m q0.d])).put (some 31) (.agg #[.bool p1.s, .slice p1.A p1.n p1.c, .slice p1.B p1.m p1.d, .bool q1.s, .slice q1.A q1.n q1.c, .slice q1.B q1.m q1.d])) ∧ S6 w' h0 (.bool false) (.slice none 0 0) (.slice none 0 0) (.bool false) (.slice none 0 0) (.slice none 0 0) ∧ w.heap.size ≤ h0 ∧ w.heap.size ≠ h0 ∧ w.heap.size + 1 ≠ h0 ∧ w.heap.size + 2 ≠ h0 ∧ S6 w' h1 (.bool false) (.slice none 0 0) (.slice none 0 0) (.bool false) (.slice none 0 0) (.slice none 0 0) ∧ w.heap.size ≤ h1 ∧ w.heap.size ≠ h1 ∧ w.heap.size + 1 ≠ h1 ∧ w.heap.size + 2 ≠ h1 ∧ h0 ≠ h1 ∧ S6 w' h2 (.bool false) (.slice none 0 0) (.slice none 0 0) (.bool false) (.slice none 0 0) (.slice none 0 0) ∧ w.heap.size ≤ h2 ∧ w.heap.size ≠ h2 ∧ w.heap.size + 1 ≠ h2 ∧ w.heap.size + 2 ≠ h2 ∧ h0 ≠ h2 ∧ h1 ≠ h2 ∧ Cu w' p0 S1 ∧ Cu w' q0 S2 ∧ Cu w' p1 N1 ∧ Cu w' q1 N2 | (true, true, true, 3) => ∃ (h0 : Nat) (h1 : Nat) (h2 : Nat) (p0 q0 : Rv) (p1 q1 : Rv) (p2 q2 : Rv), a' = ((((((a0.put (some 7) (.pointer (some ⟨h0, 0, none⟩))).put (some 8) (.pointer (some ⟨h1, 0, none⟩))).put (some 9) (.pointer (some ⟨h2, 0, none⟩))).put (some 29) (.agg #[.bool p0.s, .slice p0.A p0.n p0.c, .slice p0.B p0.m p0.d, .bool q0.s, .slice q0.A q0.n q0.c, .slice q0.B q0.m q0.d])).put (some 31) (.agg #[.bool p1.s, .slice p1.A p1.n p1.c, .slice p1.B p1.m p1.d, .bool q1.s, .slice q1.A q1.n q1.c, .slice q1.B q1.m q1.d])).put (some 34) (.agg #[.bool p2.s, .slice p2.A p2.n p2.c, .slice p2.B p2.m p2.d, .bool q2.s, .slice q2.A q2.n q2.c, .slice q2.B q2.m q2.d])) ∧ S6 w' h0 (.bool false) (.slice none 0 0) (.slice none 0 0) (.bool false) (.slice none 0 0) (.slice none 0 0) ∧ w.heap.size ≤ h0 ∧ w.heap.size ≠ h0 ∧ w.heap.size + 1 ≠ h0 ∧ w.heap.size + 2 ≠ h0 ∧ S6 w' h1 (.bool false) (.slice none 0 0) (.slice none 0 0) (.bool false) (.slice none 0 0) (.slice none 0 0) ∧ w.heap.size ≤ h1 ∧ w.heap.size ≠ h1 ∧ w.heap.size + 1 ≠ h1 ∧ w.heap.size + 2 ≠ h1 ∧ h0 ≠ h1 ∧ S6 w' h2 (.bool false) (.slice none 0 0) (.slice none 0 0) (.bool false) (.slice none 0 0) (.slice none 0 0) ∧ w.heap.size ≤ h2 ∧ w.heap.size ≠ h2 ∧ w.heap.size + 1 ≠ h2 ∧ w.heap.size + 2 ≠ h2 ∧ h0 ≠ h2 ∧ h1 ≠ h2 ∧ Cu w' p0 S1 ∧ Cu w' q0 S2 ∧ Cu w' p1 N1 ∧ Cu w' q1 N2 ∧ Cu w' p2 M1 ∧ Cu w' q2 M2 | _ => False) (false, false, false, 0) (by kernel_rfl) (by kernel_rfl) ⟨⟨ba_8, bb_8, bc_8, ku_8, kv_8, kx_8, ky_8, kt_8, F8⟩, rfl⟩ (fun s ih a' w' hI => ?_)
    obtain ⟨t0, t1, t2, c⟩ := s
    rcases t0 with _ | _
    · rcases t1 with _ | _
      · rcases t2 with _ | _
        · rcases c with _ | _ | _ | _ | c
          · obtain ⟨⟨B0, B1, B2, B3, B4, B5, B6, B7, B8⟩, rfl⟩ := hI
            change wpAnyH _ _ _ _ _ (8 + 1) #[true, true, false, true, false, true, true, false, false, false, false, false, false, false] _ _
            try simp only [Act.put, List.getElem_toArray, List.getElem_cons_succ, List.getElem_cons_zero, List.setIfInBounds_toArray, List.set_cons_zero, List.set_cons_succ]
            refine wpAnyH_ready (rs := [2, 8, 9, 10]) (by kernel_rfl) (by simp) ?_
            refine AllReadyH.cons rfl (fun K hK => ?_) ?_
            · go_simp
              go_at_call 19
              with_reducible refine (iadd_e _ _ _ _ p q p' q' S1 S2 _ HS1.out HS2.out B3 B4 B5 B6 HP.out.1 HP.out.2 sp sq sp' sq').mono ?_
              rintro e x9 ⟨p0, q0, rfl, C0, D0, b9⟩
              try dsimp only
              refine hK.out _ _ ?_ (fun hHeld => ?_)
              · (try dsimp only); exact ⟨(B0.below b9 B0.lt).cell0, (B0.below b9 B0.lt).cell1, (B0.below b9 B0.lt).cell2, (B0.below b9 B0.lt).cell3, (B0.below b9 B0.lt).cell4, (B0.below b9 B0.lt).cell5, (B1.below b9 B1.lt).cell0, (B1.below b9 B1.lt).cell1, (B1.below b9 B1.lt).cell2, (B1.below b9 B1.lt).cell3, (B1.below b9 B1.lt).cell4, (B1.below b9 B1.lt).cell5, (B2.below b9 B2.lt).cell0, (B2.below b9 B2.lt).cell1, (B2.below b9 B2.lt).cell2⟩
              · exact ih (false, false, false, 1) (by decide) _ _ ⟨⟨B0.below b9 B0.lt, B1.below b9 B1.lt, B2.below b9 B2.lt, B3.below b9, B4.below b9, B5.below b9, B6.below b9, B7.below b9, below_then B8 (Nat.le_refl _) b9⟩, p0, q0, rfl, C0, D0⟩
            refine AllReadyH.cons rfl (fun K hK => ?_) ?_
            · go_simp
              refine hK.out _ _ ?_ (fun hHeld => ?_)
              · (try dsimp only); exact ⟨(B0.alloc EV0).cell0, (B0.alloc EV0).cell1, (B0.alloc EV0).cell2, (B0.alloc EV0).cell3, (B0.alloc EV0).cell4, (B0.alloc EV0).cell5, (B1.alloc EV0).cell0, (B1.alloc EV0).cell1, (B1.alloc EV0).cell2, (B1.alloc EV0).cell3, (B1.alloc EV0).cell4, (B1.alloc EV0).cell5, (B2.alloc EV0).cell0, (B2.alloc EV0).cell1, (B2.alloc EV0).cell2⟩
              · exact ih (true, false, false, 0) (by decide) _ _ ⟨⟨B0.alloc EV0, B1.alloc EV0, B2.alloc EV0, B3.alloc EV0, B4.alloc EV0, B5.alloc EV0, B6.alloc EV0, B7.alloc EV0, B8.alloc B8.size EV0⟩, _, rfl, S6.new w' (.bool false) (.slice none 0 0) (.slice none 0 0) (.bool false) (.slice none 0 0) (.slice none 0 0), B8.size, Nat.ne_of_lt B0.lt, Nat.ne_of_lt B1.lt, Nat.ne_of_lt B2.lt⟩
            refine AllReadyH.cons rfl (fun K hK => ?_) ?_
            · go_simp
              refine hK.out _ _ ?_ (fun hHeld => ?_)
              · (try dsimp only); exact ⟨(B0.alloc EV0).cell0, (B0.alloc EV0).cell1, (B0.alloc EV0).cell2, (B0.alloc EV0).cell3, (B0.alloc EV0).cell4, (B0.alloc EV0).cell5, (B1.alloc EV0).cell0, (B1.alloc EV0).cell1, (B1.alloc EV0).cell2, (B1.alloc EV0).cell3, (B1.alloc EV0).cell4, (B1.alloc EV0).cell5, (B2.alloc EV0).cell0, (B2.alloc EV0).cell1, (B2.alloc EV0).cell2⟩
              · exact ih (false, true, false, 0) (by decide) _ _ ⟨⟨B0.alloc EV0, B1.alloc EV0, B2.alloc EV0, B3.alloc EV0, B4.alloc EV0, B5.alloc EV0, B6.alloc EV0, B7.alloc EV0, B8.alloc B8.size EV0⟩, _, rfl, S6.new w' (.bool false) (.slice none 0 0) (.slice none 0 0) (.bool false) (.slice none 0 0) (.slice none 0 0), B8.size, Nat.ne_of_lt B0.lt, Nat.ne_of_lt B1.lt, Nat.ne_of_lt B2.lt⟩
            refine AllReadyH.cons rfl (fun K hK => ?_) ?_
            · go_simp
              refine hK.out _ _ ?_ (fun hHeld => ?_)
              · (try dsimp only); exact ⟨(B0.alloc EV0).cell0, (B0.alloc EV0).cell1, (B0.alloc EV0).cell2, (B0.alloc EV0).cell3, (B0.alloc EV0).cell4, (B0.alloc EV0).cell5, (B1.alloc EV0).cell0, (B1.alloc EV0).cell1, (B1.alloc EV0).cell2, (B1.alloc EV0).cell3, (B1.alloc EV0).cell4, (B1.alloc EV0).cell5, (B2.alloc EV0).cell0, (B2.alloc EV0).cell1, (B2.alloc EV0).cell2⟩
              · exact ih (false, false, true, 0) (by decide) _ _ ⟨⟨B0.alloc EV0, B1.alloc EV0, B2.alloc EV0, B3.alloc EV0, B4.alloc EV0, B5.alloc EV0, B6.alloc EV0, B7.alloc EV0, B8.alloc B8.size EV0⟩, _, rfl, S6.new w' (.bool false) (.slice none 0 0) (.slice none 0 0) (.bool false) (.slice none 0 0) (.slice none 0 0), B8.size, Nat.ne_of_lt B0.lt, Nat.ne_of_lt B1.lt, Nat.ne_of_lt B2.lt⟩
            exact AllReadyH.nil
          · obtain ⟨⟨B0, B1, B2, B3, B4, B5, B6, B7, B8⟩, p0, q0, rfl, C0, D0⟩ := hI
            change wpAnyH _ _ _ _ _ (7 + 1) #[true, true, true, true, false, true, true, false, false, false, false, false, false, false] _ _
            try simp only [Act.put, List.getElem_toArray, List.getElem_cons_succ, List.getElem_cons_zero, List.setIfInBounds_toArray, List.set_cons_zero, List.set_cons_succ]
            refine wpAnyH_ready (rs := [4, 8, 9, 10]) (by kernel_rfl) (by simp) ?_
            refine AllReadyH.cons rfl (fun K hK => ?_) ?_
            · go_simp
              go_at_call 20
              with_reducible refine (ineg_e _ _ p q N1 N2 _ HN1.out HN2.out B3 B4 HP.out.1 sp sq).mono ?_
              rintro e x9 ⟨p1, q1, rfl, C1, D1, b9⟩
              try dsimp only
              refine hK.out _ _ ?_ (fun hHeld => ?_)
              · (try dsimp only); exact ⟨(B0.below b9 B0.lt).cell0, (B0.below b9 B0.lt).cell1, (B0.below b9 B0.lt).cell2, (B0.below b9 B0.lt).cell3, (B0.below b9 B0.lt).cell4, (B0.below b9 B0.lt).cell5, (B1.below b9 B1.lt).cell0, (B1.below b9 B1.lt).cell1, (B1.below b9 B1.lt).cell2, (B1.below b9 B1.lt).cell3, (B1.below b9 B1.lt).cell4, (B1.below b9 B1.lt).cell5, (B2.below b9 B2.lt).cell0, (B2.below b9 B2.lt).cell1, (B2.below b9 B2.lt).cell2⟩
              · exact ih (false, false, false, 2) (by decide) _ _ ⟨⟨B0.below b9 B0.lt, B1.below b9 B1.lt, B2.below b9 B2.lt, B3.below b9, B4.below b9, B5.below b9, B6.below b9, B7.below b9, below_then B8 (Nat.le_refl _) b9⟩, p0, q0, p1, q1, rfl, C0.below b9, D0.below b9, C1, D1⟩
            refine AllReadyH.cons rfl (fun K hK => ?_) ?_
            · go_simp
              refine hK.out _ _ ?_ (fun hHeld => ?_)
              · (try dsimp only); exact ⟨(B0.alloc EV0).cell0, (B0.alloc EV0).cell1, (B0.alloc EV0).cell2, (B0.alloc EV0).cell3, (B0.alloc EV0).cell4, (B0.alloc EV0).cell5, (B1.alloc EV0).cell0, (B1.alloc EV0).cell1, (B1.alloc EV0).cell2, (B1.alloc EV0).cell3, (B1.alloc EV0).cell4, (B1.alloc EV0).cell5, (B2.alloc EV0).cell0, (B2.alloc EV0).cell1, (B2.alloc EV0).cell2⟩
              · exact ih (true, false, false, 1) (by decide) _ _ ⟨⟨B0.alloc EV0, B1.alloc EV0, B2.alloc EV0, B3.alloc EV0, B4.alloc EV0, B5.alloc EV0, B6.alloc EV0, B7.alloc EV0, B8.alloc B8.size EV0⟩, _, p0, q0, rfl, S6.new w' (.bool false) (.slice none 0 0) (.slice none 0 0) (.bool false) (.slice none 0 0) (.slice none 0 0), B8.size, Nat.ne_of_lt B0.lt, Nat.ne_of_lt B1.lt, Nat.ne_of_lt B2.lt, C0.alloc EV0, D0.alloc EV0⟩
            refine AllReadyH.cons rfl (fun K hK => ?_) ?_
            · go_simp
              refine hK.out _ _ ?_ (fun hHeld => ?_)
              · (try dsimp only); exact ⟨(B0.alloc EV0).cell0, (B0.alloc EV0).cell1, (B0.alloc EV0).cell2, (B0.alloc EV0).cell3, (B0.alloc EV0).cell4, (B0.alloc EV0).cell5, (B1.alloc EV0).cell0, (B1.alloc EV0).cell1, (B1.alloc EV0).cell2, (B1.alloc EV0).cell3, (B1.alloc EV0).cell4, (B1.alloc EV0).cell5, (B2.alloc EV0).cell0, (B2.alloc EV0).cell1, (B2.alloc EV0).cell2⟩
              · exact ih (false, true, false, 1) (by decide) _ _ ⟨⟨B0.alloc EV0, B1.alloc EV0, B2.alloc EV0, B3.alloc EV0, B4.alloc EV0, B5.alloc EV0, B6.alloc EV0, B7.alloc EV0, B8.alloc B8.size EV0⟩, _, p0, q0, rfl, S6.new w' (.bool false) (.slice none 0 0) (.slice none 0 0) (.bool false) (.slice none 0 0) (.slice none 0 0), B8.size, Nat.ne_of_lt B0.lt, Nat.ne_of_lt B1.lt, Nat.ne_of_lt B2.lt, C0.alloc EV0, D0.alloc EV0⟩
            refine AllReadyH.cons rfl (fun K hK => ?_) ?_
            · go_simp
              refine hK.out _ _ ?_ (fun hHeld => ?_)
              · (try dsimp only); exact ⟨(B0.alloc EV0).cell0, (B0.alloc EV0).cell1, (B0.alloc EV0).cell2, (B0.alloc EV0).cell3, (B0.alloc EV0).cell4, (B0.alloc EV0).cell5, (B1.alloc EV0).cell0, (B1.alloc EV0).cell1, (B1.alloc EV0).cell2, (B1.alloc EV0).cell3, (B1.alloc EV0).cell4, (B1.alloc EV0).cell5, (B2.alloc EV0).cell0, (B2.alloc EV0).cell1, (B2.alloc EV0).cell2⟩
              · exact ih (false, false, true, 1) (by decide) _ _ ⟨⟨B0.alloc EV0, B1.alloc EV0, B2.alloc EV0, B3.alloc EV0, B4.alloc EV0, B5.alloc EV0, B6.alloc EV0, B7.alloc EV0, B8.alloc B8.size EV0⟩, _, p0, q0, rfl, S6.new w' (.bool false) (.slice none 0 0) (.slice none 0 0) (.bool false) (.slice none 0 0) (.slice none 0 0), B8.size, Nat.ne_of_lt B0.lt, Nat.ne_of_lt B1.lt, Nat.ne_of_lt B2.lt, C0.alloc EV0, D0.alloc EV0⟩
            exact AllReadyH.nil
          · obtain ⟨⟨B0, B1, B2, B3, B4, B5, B6, B7, B8⟩, p0, q0, p1, q1, rfl, C0, D0, C1, D1⟩ := hI
            change wpAnyH _ _ _ _ _ (6 + 1) #[true, true, true, true, true, true, true, false, false, false, false, false, false, false] _ _
            try simp only [Act.put, List.getElem_toArray, List.getElem_cons_succ, List.getElem_cons_zero, List.setIfInBounds_toArray, List.set_cons_zero, List.set_cons_succ]
            refine wpAnyH_ready (rs := [7, 8, 9, 10]) (by kernel_rfl) (by simp) ?_
            refine AllReadyH.cons rfl (fun K hK => ?_) ?_
            · go_simp
              go_at_call 21
              with_reducible refine (iscale_e _ _ _ p q z M1 M2 _ HM1.out HM2.out B3 B4 B7 lt1 HP.out.1 sp sq sz_).mono ?_
              rintro e x9 ⟨p2, q2, rfl, C2, D2, b9⟩
              try dsimp only
              refine hK.out _ _ ?_ (fun hHeld => ?_)
              · (try dsimp only); exact ⟨(B0.below b9 B0.lt).cell0, (B0.below b9 B0.lt).cell1, (B0.below b9 B0.lt).cell2, (B0.below b9 B0.lt).cell3, (B0.below b9 B0.lt).cell4, (B0.below b9 B0.lt).cell5, (B1.below b9 B1.lt).cell0, (B1.below b9 B1.lt).cell1, (B1.below b9 B1.lt).cell2, (B1.below b9 B1.lt).cell3, (B1.below b9 B1.lt).cell4, (B1.below b9 B1.lt).cell5, (B2.below b9 B2.lt).cell0, (B2.below b9 B2.lt).cell1, (B2.below b9 B2.lt).cell2⟩
              · exact ih (false, false, false, 3) (by decide) _ _ ⟨⟨B0.below b9 B0.lt, B1.below b9 B1.lt, B2.below b9 B2.lt, B3.below b9, B4.below b9, B5.below b9, B6.below b9, B7.below b9, below_then B8 (Nat.le_refl _) b9⟩, p0, q0, p1, q1, p2, q2, rfl, C0.below b9, D0.below b9, C1.below b9, D1.below b9, C2, D2⟩
            refine AllReadyH.cons rfl (fun K hK => ?_) ?_
            · go_simp
              refine hK.out _ _ ?_ (fun hHeld => ?_)
              · (try dsimp only); exact ⟨(B0.alloc EV0).cell0, (B0.alloc EV0).cell1, (B0.alloc EV0).cell2, (B0.alloc EV0).cell3, (B0.alloc EV0).cell4, (B0.alloc EV0).cell5, (B1.alloc EV0).cell0, (B1.alloc EV0).cell1, (B1.alloc EV0).cell2, (B1.alloc EV0).cell3, (B1.alloc EV0).cell4, (B1.alloc EV0).cell5, (B2.alloc EV0).cell0, (B2.alloc EV0).cell1, (B2.alloc EV0).cell2⟩
              · exact ih (true, false, false, 2) (by decide) _ _ ⟨⟨B0.alloc EV0, B1.alloc EV0, B2.alloc EV0, B3.alloc EV0, B4.alloc EV0, B5.alloc EV0, B6.alloc EV0, B7.alloc EV0, B8.alloc B8.size EV0⟩, _, p0, q0, p1, q1, rfl, S6.new w' (.bool false) (.slice none 0 0) (.slice none 0 0) (.bool false) (.slice none 0 0) (.slice none 0 0), B8.size, Nat.ne_of_lt B0.lt, Nat.ne_of_lt B1.lt, Nat.ne_of_lt B2.lt, C0.alloc EV0, D0.alloc EV0, C1.alloc EV0, D1.alloc EV0⟩
            refine AllReadyH.cons rfl (fun K hK => ?_) ?_
            · go_simp
              refine hK.out _ _ ?_ (fun hHeld => ?_)
              · (try dsimp only); exact ⟨(B0.alloc EV0).cell0, (B0.alloc EV0).cell1, (B0.alloc EV0).cell2, (B0.alloc EV0).cell3, (B0.alloc EV0).cell4, (B0.alloc EV0).cell5, (B1.alloc EV0).cell0, (B1.alloc EV0).cell1, (B1.alloc EV0).cell2, (B1.alloc EV0).cell3, (B1.alloc EV0).cell4, (B1.alloc EV0).cell5, (B2.alloc EV0).cell0, (B2.alloc EV0).cell1, (B2.alloc EV0).cell2⟩
              · exact ih (false, true, false, 2) (by decide) _ _ ⟨⟨B0.alloc EV0, B1.alloc EV0, B2.alloc EV0, B3.alloc EV0, B4.alloc EV0, B5.alloc EV0, B6.alloc EV0, B7.alloc EV0, B8.alloc B8.size EV0⟩, _, p0, q0, p1, q1, rfl, S6.new w' (.bool false) (.slice none 0 0) (.slice none 0 0) (.bool false) (.slice none 0 0) (.slice none 0 0), B8.size, Nat.ne_of_lt B0.lt, Nat.ne_of_lt B1.lt, Nat.ne_of_lt B2.lt, C0.alloc EV0, D0.alloc EV0, C1.alloc EV0, D1.alloc EV0⟩
            refine AllReadyH.cons rfl (fun K hK => ?_) ?_
            · go_simp
              refine hK.out _ _ ?_ (fun hHeld => ?_)
              · (try dsimp only); exact ⟨(B0.alloc EV0).cell0, (B0.alloc EV0).cell1, (B0.alloc EV0).cell2, (B0.alloc EV0).cell3, (B0.alloc EV0).cell4, (B0.alloc EV0).cell5, (B1.alloc EV0).cell0, (B1.alloc EV0).cell1, (B1.alloc EV0).cell2, (B1.alloc EV0).cell3, (B1.alloc EV0).cell4, (B1.alloc EV0).cell5, (B2.alloc EV0).cell0, (B2.alloc EV0).cell1, (B2.alloc EV0).cell2⟩
              · exact ih (false, false, true, 2) (by decide) _ _ ⟨⟨B0.alloc EV0, B1.alloc EV0, B2.alloc EV0, B3.alloc EV0, B4.alloc EV0, B5.alloc EV0, B6.alloc EV0, B7.alloc EV0, B8.alloc B8.size EV0⟩, _, p0, q0, p1, q1, rfl, S6.new w' (.bool false) (.slice none 0 0) (.slice none 0 0) (.bool false) (.slice none 0 0) (.slice none 0 0), B8.size, Nat.ne_of_lt B0.lt, Nat.ne_of_lt B1.lt, Nat.ne_of_lt B2.lt, C0.alloc EV0, D0.alloc EV0, C1.alloc EV0, D1.alloc EV0⟩
            exact AllReadyH.nil
          · obtain ⟨⟨B0, B1, B2, B3, B4, B5, B6, B7, B8⟩, p0, q0, p1, q1, p2, q2, rfl, C0, D0, C1, D1, C2, D2⟩ := hI
            change wpAnyH _ _ _ _ _ (5 + 1) #[true, true, true, true, true, true, true, true, false, false, false, false, false, false] _ _
            try simp only [Act.put, List.getElem_toArray, List.getElem_cons_succ, List.getElem_cons_zero, List.setIfInBounds_toArray, List.set_cons_zero, List.set_cons_succ]
            refine wpAnyH_ready (rs := [8, 9, 10]) (by kernel_rfl) (by simp) ?_
            refine AllReadyH.cons rfl (fun K hK => ?_) ?_
            · go_simp
              refine hK.out _ _ ?_ (fun hHeld => ?_)
              · (try dsimp only); exact ⟨(B0.alloc EV0).cell0, (B0.alloc EV0).cell1, (B0.alloc EV0).cell2, (B0.alloc EV0).cell3, (B0.alloc EV0).cell4, (B0.alloc EV0).cell5, (B1.alloc EV0).cell0, (B1.alloc EV0).cell1, (B1.alloc EV0).cell2, (B1.alloc EV0).cell3, (B1.alloc EV0).cell4, (B1.alloc EV0).cell5, (B2.alloc EV0).cell0, (B2.alloc EV0).cell1, (B2.alloc EV0).cell2⟩
              · exact ih (true, false, false, 3) (by decide) _ _ ⟨⟨B0.alloc EV0, B1.alloc EV0, B2.alloc EV0, B3.alloc EV0, B4.alloc EV0, B5.alloc EV0, B6.alloc EV0, B7.alloc EV0, B8.alloc B8.size EV0⟩, _, p0, q0, p1, q1, p2, q2, rfl, S6.new w' (.bool false) (.slice none 0 0) (.slice none 0 0) (.bool false) (.slice none 0 0) (.slice none 0 0), B8.size, Nat.ne_of_lt B0.lt, Nat.ne_of_lt B1.lt, Nat.ne_of_lt B2.lt, C0.alloc EV0, D0.alloc EV0, C1.alloc EV0, D1.alloc EV0, C2.alloc EV0, D2.alloc EV0⟩
            refine AllReadyH.cons rfl (fun K hK => ?_) ?_
            · go_simp
              refine hK.out _ _ ?_ (fun hHeld => ?_)
              · (try dsimp only); exact ⟨(B0.alloc EV0).cell0, (B0.alloc EV0).cell1, (B0.alloc EV0).cell2, (B0.alloc EV0).cell3, (B0.alloc EV0).cell4, (B0.alloc EV0).cell5, (B1.alloc EV0).cell0, (B1.alloc EV0).cell1, (B1.alloc EV0).cell2, (B1.alloc EV0).cell3, (B1.alloc EV0).cell4, (B1.alloc EV0).cell5, (B2.alloc EV0).cell0, (B2.alloc EV0).cell1, (B2.alloc EV0).cell2⟩
              · exact ih (false, true, false, 3) (by decide) _ _ ⟨⟨B0.alloc EV0, B1.alloc EV0, B2.alloc EV0, B3.alloc EV0, B4.alloc EV0, B5.alloc EV0, B6.alloc EV0, B7.alloc EV0, B8.alloc B8.size EV0⟩, _, p0, q0, p1, q1, p2, q2, rfl, S6.new w' (.bool false) (.slice none 0 0) (.slice none 0 0) (.bool false) (.slice none 0 0) (.slice none 0 0), B8.size, Nat.ne_of_lt B0.lt, Nat.ne_of_lt B1.lt, Nat.ne_of_lt B2.lt, C0.alloc EV0, D0.alloc EV0, C1.alloc EV0, D1.alloc EV0, C2.alloc EV0, D2.alloc EV0⟩
            refine AllReadyH.cons rfl (fun K hK => ?_) ?_
            · go_simp
              refine hK.out _ _ ?_ (fun hHeld => ?_)
              · (try dsimp only); exact ⟨(B0.alloc EV0).cell0, (B0.alloc EV0).cell1, (B0.alloc EV0).cell2, (B0.alloc EV0).cell3, (B0.alloc EV0).cell4, (B0.alloc EV0).cell5, (B1.alloc EV0).cell0, (B1.alloc EV0).cell1, (B1.alloc EV0).cell2, (B1.alloc EV0).cell3, (B1.alloc EV0).cell4, (B1.alloc EV0).cell5, (B2.alloc EV0).cell0, (B2.alloc EV0).cell1, (B2.alloc EV0).cell2⟩
              · exact ih (false, false, true, 3) (by decide) _ _ ⟨⟨B0.alloc EV0, B1.alloc EV0, B2.alloc EV0, B3.alloc EV0, B4.alloc EV0, B5.alloc EV0, B6.alloc EV0, B7.alloc EV0, B8.alloc B8.size EV0⟩, _, p0, q0, p1, q1, p2, q2, rfl, S6.new w' (.bool false) (.slice none 0 0) (.slice none 0 0) (.bool false) (.slice none 0 0) (.slice none 0 0), B8.size, Nat.ne_of_lt B0.lt, Nat.ne_of_lt B1.lt, Nat.ne_of_lt B2.lt, C0.alloc EV0, D0.alloc EV0, C1.alloc EV0, D1.alloc EV0, C2.alloc EV0, D2.alloc EV0⟩
            exact AllReadyH.nil
          · exact hI.2.elim
        · rcases c with _ | _ | _ | _ | c
          · obtain ⟨⟨B0, B1, B2, B3, B4, B5, B6, B7, B8⟩, h2, rfl, Z2, G2, N2_0, N2_1, N2_2⟩ := hI
            change wpAnyH _ _ _ _ _ (7 + 1) #[true, true, false, true, false, true, true, false, false, false, true, false, false, false] _ _
            try simp only [Act.put, List.getElem_toArray, List.getElem_cons_succ, List.getElem_cons_zero, List.setIfInBounds_toArray, List.set_cons_zero, List.set_cons_succ]
            refine wpAnyH_ready (rs := [2, 8, 9]) (by kernel_rfl) (by simp) ?_
            refine AllReadyH.cons rfl (fun K hK => ?_) ?_
            · go_simp
              go_at_call 19
              with_reducible refine (iadd_e _ _ _ _ p q p' q' S1 S2 _ HS1.out HS2.out B3 B4 B5 B6 HP.out.1 HP.out.2 sp sq sp' sq').mono ?_
              rintro e x9 ⟨p0, q0, rfl, C0, D0, b9⟩
              try dsimp only
              refine hK.out _ _ ?_ (fun hHeld => ?_)
              · (try dsimp only); exact ⟨(B0.below b9 B0.lt).cell0, (B0.below b9 B0.lt).cell1, (B0.below b9 B0.lt).cell2, (B0.below b9 B0.lt).cell3, (B0.below b9 B0.lt).cell4, (B0.below b9 B0.lt).cell5, (B1.below b9 B1.lt).cell0, (B1.below b9 B1.lt).cell1, (B1.below b9 B1.lt).cell2, (B1.below b9 B1.lt).cell3, (B1.below b9 B1.lt).cell4, (B1.below b9 B1.lt).cell5, (B2.below b9 B2.lt).cell0, (B2.below b9 B2.lt).cell1, (B2.below b9 B2.lt).cell2⟩
              · exact ih (false, false, true, 1) (by decide) _ _ ⟨⟨B0.below b9 B0.lt, B1.below b9 B1.lt, B2.below b9 B2.lt, B3.below b9, B4.below b9, B5.below b9, B6.below b9, B7.below b9, below_then B8 (Nat.le_refl _) b9⟩, h2, p0, q0, rfl, Z2.below b9 Z2.lt, G2, N2_0, N2_1, N2_2, C0, D0⟩
            refine AllReadyH.cons rfl (fun K hK => ?_) ?_
            · go_simp
              refine hK.out _ _ ?_ (fun hHeld => ?_)
              · (try dsimp only); exact ⟨(B0.alloc EV0).cell0, (B0.alloc EV0).cell1, (B0.alloc EV0).cell2, (B0.alloc EV0).cell3, (B0.alloc EV0).cell4, (B0.alloc EV0).cell5, (B1.alloc EV0).cell0, (B1.alloc EV0).cell1, (B1.alloc EV0).cell2, (B1.alloc EV0).cell3, (B1.alloc EV0).cell4, (B1.alloc EV0).cell5, (B2.alloc EV0).cell0, (B2.alloc EV0).cell1, (B2.alloc EV0).cell2⟩
              · exact ih (true, false, true, 0) (by decide) _ _ ⟨⟨B0.alloc EV0, B1.alloc EV0, B2.alloc EV0, B3.alloc EV0, B4.alloc EV0, B5.alloc EV0, B6.alloc EV0, B7.alloc EV0, B8.alloc B8.size EV0⟩, _, h2, rfl, S6.new w' (.bool false) (.slice none 0 0) (.slice none 0 0) (.bool false) (.slice none 0 0) (.slice none 0 0), B8.size, Nat.ne_of_lt B0.lt, Nat.ne_of_lt B1.lt, Nat.ne_of_lt B2.lt, Z2.alloc EV0, G2, N2_0, N2_1, N2_2, Nat.ne_of_gt Z2.lt⟩
            refine AllReadyH.cons rfl (fun K hK => ?_) ?_
            · go_simp
              refine hK.out _ _ ?_ (fun hHeld => ?_)
              · (try dsimp only); exact ⟨(B0.alloc EV0).cell0, (B0.alloc EV0).cell1, (B0.alloc EV0).cell2, (B0.alloc EV0).cell3, (B0.alloc EV0).cell4, (B0.alloc EV0).cell5, (B1.alloc EV0).cell0, (B1.alloc EV0).cell1, (B1.alloc EV0).cell2, (B1.alloc EV0).cell3, (B1.alloc EV0).cell4, (B1.alloc EV0).cell5, (B2.alloc EV0).cell0, (B2.alloc EV0).cell1, (B2.alloc EV0).cell2⟩
              · exact ih (false, true, true, 0) (by decide) _ _ ⟨⟨B0.alloc EV0, B1.alloc EV0, B2.alloc EV0, B3.alloc EV0, B4.alloc EV0, B5.alloc EV0, B6.alloc EV0, B7.alloc EV0, B8.alloc B8.size EV0⟩, _, h2, rfl, S6.new w' (.bool false) (.slice none 0 0) (.slice none 0 0) (.bool false) (.slice none 0 0) (.slice none 0 0), B8.size, Nat.ne_of_lt B0.lt, Nat.ne_of_lt B1.lt, Nat.ne_of_lt B2.lt, Z2.alloc EV0, G2, N2_0, N2_1, N2_2, Nat.ne_of_gt Z2.lt⟩
            exact AllReadyH.nil
          · obtain ⟨⟨B0, B1, B2, B3, B4, B5, B6, B7, B8⟩, h2, p0, q0, rfl, Z2, G2, N2_0, N2_1, N2_2, C0, D0⟩ := hI
            change wpAnyH _ _ _ _ _ (6 + 1) #[true, true, true, true, false, true, true, false, false, false, true, false, false, false] _ _
            try simp only [Act.put, List.getElem_toArray, List.getElem_cons_succ, List.getElem_cons_zero, List.setIfInBounds_toArray, List.set_cons_zero, List.set_cons_succ]
            refine wpAnyH_ready (rs := [4, 8, 9]) (by kernel_rfl) (by simp) ?_
            refine AllReadyH.cons rfl (fun K hK => ?_) ?_
            · go_simp
              go_at_call 20
              with_reducible refine (ineg_e _ _ p q N1 N2 _ HN1.out HN2.out B3 B4 HP.out.1 sp sq).mono ?_
              rintro e x9 ⟨p1, q1, rfl, C1, D1, b9⟩
              try dsimp only
              refine hK.out _ _ ?_ (fun hHeld => ?_)
              · (try dsimp only); exact ⟨(B0.below b9 B0.lt).cell0, (B0.below b9 B0.lt).cell1, (B0.below b9 B0.lt).cell2, (B0.below b9 B0.lt).cell3, (B0.below b9 B0.lt).cell4, (B0.below b9 B0.lt).cell5, (B1.below b9 B1.lt).cell0, (B1.below b9 B1.lt).cell1, (B1.below b9 B1.lt).cell2, (B1.below b9 B1.lt).cell3, (B1.below b9 B1.lt).cell4, (B1.below b9 B1.lt).cell5, (B2.below b9 B2.lt).cell0, (B2.below b9 B2.lt).cell1, (B2.below b9 B2.lt).cell2⟩
              · exact ih (false, false, true, 2) (by decide) _ _ ⟨⟨B0.below b9 B0.lt, B1.below b9 B1.lt, B2.below b9 B2.lt, B3.below b9, B4.below b9, B5.below b9, B6.below b9, B7.below b9, below_then B8 (Nat.le_refl _) b9⟩, h2, p0, q0, p1, q1, rfl, Z2.below b9 Z2.lt, G2, N2_0, N2_1, N2_2, C0.below b9, D0.below b9, C1, D1⟩
            refine AllReadyH.cons rfl (fun K hK => ?_) ?_
            · go_simp
              refine hK.out _ _ ?_ (fun hHeld => ?_)
              · (try dsimp only); exact ⟨(B0.alloc EV0).cell0, (B0.alloc EV0).cell1, (B0.alloc EV0).cell2, (B0.alloc EV0).cell3, (B0.alloc EV0).cell4, (B0.alloc EV0).cell5, (B1.alloc EV0).cell0, (B1.alloc EV0).cell1, (B1.alloc EV0).cell2, (B1.alloc EV0).cell3, (B1.alloc EV0).cell4, (B1.alloc EV0).cell5, (B2.alloc EV0).cell0, (B2.alloc EV0).cell1, (B2.alloc EV0).cell2⟩
              · exact ih (true, false, true, 1) (by decide) _ _ ⟨⟨B0.alloc EV0, B1.alloc EV0, B2.alloc EV0, B3.alloc EV0, B4.alloc EV0, B5.alloc EV0, B6.alloc EV0, B7.alloc EV0, B8.alloc B8.size EV0⟩, _, h2, p0, q0, rfl, S6.new w' (.bool false) (.slice none 0 0) (.slice none 0 0) (.bool false) (.slice none 0 0) (.slice none 0 0), B8.size, Nat.ne_of_lt B0.lt, Nat.ne_of_lt B1.lt, Nat.ne_of_lt B2.lt, Z2.alloc EV0, G2, N2_0, N2_1, N2_2, Nat.ne_of_gt Z2.lt, C0.alloc EV0, D0.alloc EV0⟩
            refine AllReadyH.cons rfl (fun K hK => ?_) ?_
            · go_simp
              refine hK.out _ _ ?_ (fun hHeld => ?_)
              · (try dsimp only); exact ⟨(B0.alloc EV0).cell0, (B0.alloc EV0).cell1, (B0.alloc EV0).cell2, (B0.alloc EV0).cell3, (B0.alloc EV0).cell4, (B0.alloc EV0).cell5, (B1.alloc EV0).cell0, (B1.alloc EV0).cell1, (B1.alloc EV0).cell2, (B1.alloc EV0).cell3, (B1.alloc EV0).cell4, (B1.alloc EV0).cell5, (B2.alloc EV0).cell0, (B2.alloc EV0).cell1, (B2.alloc EV0).cell2⟩
              · exact ih (false, true, true, 1) (by decide) _ _ ⟨⟨B0.alloc EV0, B1.alloc EV0, B2.alloc EV0, B3.alloc EV0, B4.alloc EV0, B5.alloc EV0, B6.alloc EV0, B7.alloc EV0, B8.alloc B8.size EV0⟩, _, h2, p0, q0, rfl, S6.new w' (.bool false) (.slice none 0 0) (.slice none 0 0) (.bool false) (.slice none 0 0) (.slice none 0 0), B8.size, Nat.ne_of_lt B0.lt, Nat.ne_of_lt B1.lt, Nat.ne_of_lt B2.lt, Z2.alloc EV0, G2, N2_0, N2_1, N2_2, Nat.ne_of_gt Z2.lt, C0.alloc EV0, D0.alloc EV0⟩
            exact AllReadyH.nil
          · obtain ⟨⟨B0, B1, B2, B3, B4, B5, B6, B7, B8⟩, h2, p0, q0, p1, q1, rfl, Z2, G2, N2_0, N2_1, N2_2, C0, D0, C1, D1⟩ := hI
            change wpAnyH _ _ _ _ _ (5 + 1) #[true, true, true, true, true, true, true, false, false, false, true, false, false, false] _ _
            try simp only [Act.put, List.getElem_toArray, List.getElem_cons_succ, List.getElem_cons_zero, List.setIfInBounds_toArray, List.set_cons_zero, List.set_cons_succ]
            refine wpAnyH_ready (rs := [7, 8, 9]) (by kernel_rfl) (by simp) ?_
            refine AllReadyH.cons rfl (fun K hK => ?_) ?_
            · go_simp
              go_at_call 21
              with_reducible refine (iscale_e _ _ _ p q z M1 M2 _ HM1.out HM2.out B3 B4 B7 lt1 HP.out.1 sp sq sz_).mono ?_
              rintro e x9 ⟨p2, q2, rfl, C2, D2, b9⟩
              try dsimp only
              refine hK.out _ _ ?_ (fun hHeld => ?_)
              · (try dsimp only); exact ⟨(B0.below b9 B0.lt).cell0, (B0.below b9 B0.lt).cell1, (B0.below b9 B0.lt).cell2, (B0.below b9 B0.lt).cell3, (B0.below b9 B0.lt).cell4, (B0.below b9 B0.lt).cell5, (B1.below b9 B1.lt).cell0, (B1.below b9 B1.lt).cell1, (B1.below b9 B1.lt).cell2, (B1.below b9 B1.lt).cell3, (B1.below b9 B1.lt).cell4, (B1.below b9 B1.lt).cell5, (B2.below b9 B2.lt).cell0, (B2.below b9 B2.lt).cell1, (B2.below b9 B2.lt).cell2⟩
              · exact ih (false, false, true, 3) (by decide) _ _ ⟨⟨B0.below b9 B0.lt, B1.below b9 B1.lt, B2.below b9 B2.lt, B3.below b9, B4.below b9, B5.below b9, B6.below b9, B7.below b9, below_then B8 (Nat.le_refl _) b9⟩, h2, p0, q0, p1, q1, p2, q2, rfl, Z2.below b9 Z2.lt, G2, N2_0, N2_1, N2_2, C0.below b9, D0.below b9, C1.below b9, D1.below b9, C2, D2⟩
            refine AllReadyH.cons rfl (fun K hK => ?_) ?_
            · go_simp
              refine hK.out _ _ ?_ (fun hHeld => ?_)
              · (try dsimp only); exact ⟨(B0.alloc EV0).cell0, (B0.alloc EV0).cell1, (B0.alloc EV0).cell2, (B0.alloc EV0).cell3, (B0.alloc EV0).cell4, (B0.alloc EV0).cell5, (B1.alloc EV0).cell0, (B1.alloc EV0).cell1, (B1.alloc EV0).cell2, (B1.alloc EV0).cell3, (B1.alloc EV0).cell4, (B1.alloc EV0).cell5, (B2.alloc EV0).cell0, (B2.alloc EV0).cell1, (B2.alloc EV0).cell2⟩
              · exact ih (true, false, true, 2) (by decide) _ _ ⟨⟨B0.alloc EV0, B1.alloc EV0, B2.alloc EV0, B3.alloc EV0, B4.alloc EV0, B5.alloc EV0, B6.alloc EV0, B7.alloc EV0, B8.alloc B8.size EV0⟩, _, h2, p0, q0, p1, q1, rfl, S6.new w' (.bool false) (.slice none 0 0) (.slice none 0 0) (.bool false) (.slice none 0 0) (.slice none 0 0), B8.size, Nat.ne_of_lt B0.lt, Nat.ne_of_lt B1.lt, Nat.ne_of_lt B2.lt, Z2.alloc EV0, G2, N2_0, N2_1, N2_2, Nat.ne_of_gt Z2.lt, C0.alloc EV0, D0.alloc EV0, C1.alloc EV0, D1.alloc EV0⟩
            refine AllReadyH.cons rfl (fun K hK => ?_) ?_
            · go_simp
              refine hK.out _ _ ?_ (fun hHeld => ?_)
              · (try dsimp only); exact ⟨(B0.alloc EV0).cell0, (B0.alloc EV0).cell1, (B0.alloc EV0).cell2, (B0.alloc EV0).cell3, (B0.alloc EV0).cell4, (B0.alloc EV0).cell5, (B1.alloc EV0).cell0, (B1.alloc EV0).cell1, (B1.alloc EV0).cell2, (B1.alloc EV0).cell3, (B1.alloc EV0).cell4, (B1.alloc EV0).cell5, (B2.alloc EV0).cell0, (B2.alloc EV0).cell1, (B2.alloc EV0).cell2⟩
              · exact ih (false, true, true, 2) (by decide) _ _ ⟨⟨B0.alloc EV0, B1.alloc EV0, B2.alloc EV0, B3.alloc EV0, B4.alloc EV0, B5.alloc EV0, B6.alloc EV0, B7.alloc EV0, B8.alloc B8.size EV0⟩, _, h2, p0, q0, p1, q1, rfl, S6.new w' (.bool false) (.slice none 0 0) (.slice none 0 0) (.bool false) (.slice none 0 0) (.slice none 0 0), B8.size, Nat.ne_of_lt B0.lt, Nat.ne_of_lt B1.lt, Nat.ne_of_lt B2.lt, Z2.alloc EV0, G2, N2_0, N2_1, N2_2, Nat.ne_of_gt Z2.lt, C0.alloc EV0, D0.alloc EV0, C1.alloc EV0, D1.alloc EV0⟩
            exact AllReadyH.nil
          · obtain ⟨⟨B0, B1, B2, B3, B4, B5, B6, B7, B8⟩, h2, p0, q0, p1, q1, p2, q2, rfl, Z2, G2, N2_0, N2_1, N2_2, C0, D0, C1, D1, C2, D2⟩ := hI
            change wpAnyH _ _ _ _ _ (4 + 1) #[true, true, true, true, true, true, true, true, false, false, true, false, false, false] _ _
            try simp only [Act.put, List.getElem_toArray, List.getElem_cons_succ, List.getElem_cons_zero, List.setIfInBounds_toArray, List.set_cons_zero, List.set_cons_succ]
            refine wpAnyH_ready (rs := [8, 9]) (by kernel_rfl) (by simp) ?_
            refine AllReadyH.cons rfl (fun K hK => ?_) ?_
            · go_simp
              refine hK.out _ _ ?_ (fun hHeld => ?_)
              · (try dsimp only); exact ⟨(B0.alloc EV0).cell0, (B0.alloc EV0).cell1, (B0.alloc EV0).cell2, (B0.alloc EV0).cell3, (B0.alloc EV0).cell4, (B0.alloc EV0).cell5, (B1.alloc EV0).cell0, (B1.alloc EV0).cell1, (B1.alloc EV0).cell2, (B1.alloc EV0).cell3, (B1.alloc EV0).cell4, (B1.alloc EV0).cell5, (B2.alloc EV0).cell0, (B2.alloc EV0).cell1, (B2.alloc EV0).cell2⟩
              · exact ih (true, false, true, 3) (by decide) _ _ ⟨⟨B0.alloc EV0, B1.alloc EV0, B2.alloc EV0, B3.alloc EV0, B4.alloc EV0, B5.alloc EV0, B6.alloc EV0, B7.alloc EV0, B8.alloc B8.size EV0⟩, _, h2, p0, q0, p1, q1, p2, q2, rfl, S6.new w' (.bool false) (.slice none 0 0) (.slice none 0 0) (.bool false) (.slice none 0 0) (.slice none 0 0), B8.size, Nat.ne_of_lt B0.lt, Nat.ne_of_lt B1.lt, Nat.ne_of_lt B2.lt, Z2.alloc EV0, G2, N2_0, N2_1, N2_2, Nat.ne_of_gt Z2.lt, C0.alloc EV0, D0.alloc EV0, C1.alloc EV0, D1.alloc EV0, C2.alloc EV0, D2.alloc EV0⟩
            refine AllReadyH.cons rfl (fun K hK => ?_) ?_
            · go_simp
              refine hK.out _ _ ?_ (fun hHeld => ?_)
              · (try dsimp only); exact ⟨(B0.alloc EV0).cell0, (B0.alloc EV0).cell1, (B0.alloc EV0).cell2, (B0.alloc EV0).cell3, (B0.alloc EV0).cell4, (B0.alloc EV0).cell5, (B1.alloc EV0).cell0, (B1.alloc EV0).cell1, (B1.alloc EV0).cell2, (B1.alloc EV0).cell3, (B1.alloc EV0).cell4, (B1.alloc EV0).cell5, (B2.alloc EV0).cell0, (B2.alloc EV0).cell1, (B2.alloc EV0).cell2⟩
              · exact ih (false, true, true, 3) (by decide) _ _ ⟨⟨B0.alloc EV0, B1.alloc EV0, B2.alloc EV0, B3.alloc EV0, B4.alloc EV0, B5.alloc EV0, B6.alloc EV0, B7.alloc EV0, B8.alloc B8.size EV0⟩, _, h2, p0, q0, p1, q1, p2, q2, rfl, S6.new w' (.bool false) (.slice none 0 0) (.slice none 0 0) (.bool false) (.slice none 0 0) (.slice none 0 0), B8.size, Nat.ne_of_lt B0.lt, Nat.ne_of_lt B1.lt, Nat.ne_of_lt B2.lt, Z2.alloc EV0, G2, N2_0, N2_1, N2_2, Nat.ne_of_gt Z2.lt, C0.alloc EV0, D0.alloc EV0, C1.alloc EV0, D1.alloc EV0, C2.alloc EV0, D2.alloc EV0⟩
            exact AllReadyH.nil
          · exact hI.2.elim
      · rcases t2 with _ | _
        · rcases c with _ | _ | _ | _ | c
          · obtain ⟨⟨B0, B1, B2, B3, B4, B5, B6, B7, B8⟩, h1, rfl, Z1, G1, N1_0, N1_1, N1_2⟩ := hI
            change wpAnyH _ _ _ _ _ (7 + 1) #[true, true, false, true, false, true, true, false, false, true, false, false, false, false] _ _
            try simp only [Act.put, List.getElem_toArray, List.getElem_cons_succ, List.getElem_cons_zero, List.setIfInBounds_toArray, List.set_cons_zero, List.set_cons_succ]
            refine wpAnyH_ready (rs := [2, 8, 10]) (by kernel_rfl) (by simp) ?_
            refine AllReadyH.cons rfl (fun K hK => ?_) ?_
            · go_simp
              go_at_call 19
              with_reducible refine (iadd_e _ _ _ _ p q p' q' S1 S2 _ HS1.out HS2.out B3 B4 B5 B6 HP.out.1 HP.out.2 sp sq sp' sq').mono ?_
              rintro e x9 ⟨p0, q0, rfl, C0, D0, b9⟩
              try dsimp only
              refine hK.out _ _ ?_ (fun hHeld => ?_)
              · (try dsimp only); exact ⟨(B0.below b9 B0.lt).cell0, (B0.below b9 B0.lt).cell1, (B0.below b9 B0.lt).cell2, (B0.below b9 B0.lt).cell3, (B0.below b9 B0.lt).cell4, (B0.below b9 B0.lt).cell5, (B1.below b9 B1.lt).cell0, (B1.below b9 B1.lt).cell1, (B1.below b9 B1.lt).cell2, (B1.below b9 B1.lt).cell3, (B1.below b9 B1.lt).cell4, (B1.below b9 B1.lt).cell5, (B2.below b9 B2.lt).cell0, (B2.below b9 B2.lt).cell1, (B2.below b9 B2.lt).cell2⟩
              · exact ih (false, true, false, 1) (by decide) _ _ ⟨⟨B0.below b9 B0.lt, B1.below b9 B1.lt, B2.below b9 B2.lt, B3.below b9, B4.below b9, B5.below b9, B6.below b9, B7.below b9, below_then B8 (Nat.le_refl _) b9⟩, h1, p0, q0, rfl, Z1.below b9 Z1.lt, G1, N1_0, N1_1, N1_2, C0, D0⟩
            refine AllReadyH.cons rfl (fun K hK => ?_) ?_
            · go_simp
              refine hK.out _ _ ?_ (fun hHeld => ?_)
              · (try dsimp only); exact ⟨(B0.alloc EV0).cell0, (B0.alloc EV0).cell1, (B0.alloc EV0).cell2, (B0.alloc EV0).cell3, (B0.alloc EV0).cell4, (B0.alloc EV0).cell5, (B1.alloc EV0).cell0, (B1.alloc EV0).cell1, (B1.alloc EV0).cell2, (B1.alloc EV0).cell3, (B1.alloc EV0).cell4, (B1.alloc EV0).cell5, (B2.alloc EV0).cell0, (B2.alloc EV0).cell1, (B2.alloc EV0).cell2⟩
              · exact ih (true, true, false, 0) (by decide) _ _ ⟨⟨B0.alloc EV0, B1.alloc EV0, B2.alloc EV0, B3.alloc EV0, B4.alloc EV0, B5.alloc EV0, B6.alloc EV0, B7.alloc EV0, B8.alloc B8.size EV0⟩, _, h1, rfl, S6.new w' (.bool false) (.slice none 0 0) (.slice none 0 0) (.bool false) (.slice none 0 0) (.slice none 0 0), B8.size, Nat.ne_of_lt B0.lt, Nat.ne_of_lt B1.lt, Nat.ne_of_lt B2.lt, Z1.alloc EV0, G1, N1_0, N1_1, N1_2, Nat.ne_of_gt Z1.lt⟩
            refine AllReadyH.cons rfl (fun K hK => ?_) ?_
            · go_simp
              refine hK.out _ _ ?_ (fun hHeld => ?_)
              · (try dsimp only); exact ⟨(B0.alloc EV0).cell0, (B0.alloc EV0).cell1, (B0.alloc EV0).cell2, (B0.alloc EV0).cell3, (B0.alloc EV0).cell4, (B0.alloc EV0).cell5, (B1.alloc EV0).cell0, (B1.alloc EV0).cell1, (B1.alloc EV0).cell2, (B1.alloc EV0).cell3, (B1.alloc EV0).cell4, (B1.alloc EV0).cell5, (B2.alloc EV0).cell0, (B2.alloc EV0).cell1, (B2.alloc EV0).cell2⟩
              · exact ih (false, true, true, 0) (by decide) _ _ ⟨⟨B0.alloc EV0, B1.alloc EV0, B2.alloc EV0, B3.alloc EV0, B4.alloc EV0, B5.alloc EV0, B6.alloc EV0, B7.alloc EV0, B8.alloc B8.size EV0⟩, h1, _, rfl, Z1.alloc EV0, G1, N1_0, N1_1, N1_2, S6.new w' (.bool false) (.slice none 0 0) (.slice none 0 0) (.bool false) (.slice none 0 0) (.slice none 0 0), B8.size, Nat.ne_of_lt B0.lt, Nat.ne_of_lt B1.lt, Nat.ne_of_lt B2.lt, Nat.ne_of_lt Z1.lt⟩
            exact AllReadyH.nil
          · obtain ⟨⟨B0, B1, B2, B3, B4, B5, B6, B7, B8⟩, h1, p0, q0, rfl, Z1, G1, N1_0, N1_1, N1_2, C0, D0⟩ := hI
            change wpAnyH _ _ _ _ _ (6 + 1) #[true, true, true, true, false, true, true, false, false, true, false, false, false, false] _ _
            try simp only [Act.put, List.getElem_toArray, List.getElem_cons_succ, List.getElem_cons_zero, List.setIfInBounds_toArray, List.set_cons_zero, List.set_cons_succ]
            refine wpAnyH_ready (rs := [4, 8, 10]) (by kernel_rfl) (by simp) ?_
            refine AllReadyH.cons rfl (fun K hK => ?_) ?_
            · go_simp
              go_at_call 20
              with_reducible refine (ineg_e _ _ p q N1 N2 _ HN1.out HN2.out B3 B4 HP.out.1 sp sq).mono ?_
              rintro e x9 ⟨p1, q1, rfl, C1, D1, b9⟩
              try dsimp only
              refine hK.out _ _ ?_ (fun hHeld => ?_)
              · (try dsimp only); exact ⟨(B0.below b9 B0.lt).cell0, (B0.below b9 B0.lt).cell1, (B0.below b9 B0.lt).cell2, (B0.below b9 B0.lt).cell3, (B0.below b9 B0.lt).cell4, (B0.below b9 B0.lt).cell5, (B1.below b9 B1.lt).cell0, (B1.below b9 B1.lt).cell1, (B1.below b9 B1.lt).cell2, (B1.below b9 B1.lt).cell3, (B1.below b9 B1.lt).cell4, (B1.below b9 B1.lt).cell5, (B2.below b9 B2.lt).cell0, (B2.below b9 B2.lt).cell1, (B2.below b9 B2.lt).cell2⟩
              · exact ih (false, true, false, 2) (by decide) _ _ ⟨⟨B0.below b9 B0.lt, B1.below b9 B1.lt, B2.below b9 B2.lt, B3.below b9, B4.below b9, B5.below b9, B6.below b9, B7.below b9, below_then B8 (Nat.le_refl _) b9⟩, h1, p0, q0, p1, q1, rfl, Z1.below b9 Z1.lt, G1, N1_0, N1_1, N1_2, C0.below b9, D0.below b9, C1, D1⟩
            refine AllReadyH.cons rfl (fun K hK => ?_) ?_
            · go_simp
              refine hK.out _ _ ?_ (fun hHeld => ?_)
              · (try dsimp only); exact ⟨(B0.alloc EV0).cell0, (B0.alloc EV0).cell1, (B0.alloc EV0).cell2, (B0.alloc EV0).cell3, (B0.alloc EV0).cell4, (B0.alloc EV0).cell5, (B1.alloc EV0).cell0, (B1.alloc EV0).cell1, (B1.alloc EV0).cell2, (B1.alloc EV0).cell3, (B1.alloc EV0).cell4, (B1.alloc EV0).cell5, (B2.alloc EV0).cell0, (B2.alloc EV0).cell1, (B2.alloc EV0).cell2⟩
              · exact ih (true, true, false, 1) (by decide) _ _ ⟨⟨B0.alloc EV0, B1.alloc EV0, B2.alloc EV0, B3.alloc EV0, B4.alloc EV0, B5.alloc EV0, B6.alloc EV0, B7.alloc EV0, B8.alloc B8.size EV0⟩, _, h1, p0, q0, rfl, S6.new w' (.bool false) (.slice none 0 0) (.slice none 0 0) (.bool false) (.slice none 0 0) (.slice none 0 0), B8.size, Nat.ne_of_lt B0.lt, Nat.ne_of_lt B1.lt, Nat.ne_of_lt B2.lt, Z1.alloc EV0, G1, N1_0, N1_1, N1_2, Nat.ne_of_gt Z1.lt, C0.alloc EV0, D0.alloc EV0⟩
            refine AllReadyH.cons rfl (fun K hK => ?_) ?_
            · go_simp
              refine hK.out _ _ ?_ (fun hHeld => ?_)
              · (try dsimp only); exact ⟨(B0.alloc EV0).cell0, (B0.alloc EV0).cell1, (B0.alloc EV0).cell2, (B0.alloc EV0).cell3, (B0.alloc EV0).cell4, (B0.alloc EV0).cell5, (B1.alloc EV0).cell0, (B1.alloc EV0).cell1, (B1.alloc EV0).cell2, (B1.alloc EV0).cell3, (B1.alloc EV0).cell4, (B1.alloc EV0).cell5, (B2.alloc EV0).cell0, (B2.alloc EV0).cell1, (B2.alloc EV0).cell2⟩
              · exact ih (false, true, true, 1) (by decide) _ _ ⟨⟨B0.alloc EV0, B1.alloc EV0, B2.alloc EV0, B3.alloc EV0, B4.alloc EV0, B5.alloc EV0, B6.alloc EV0, B7.alloc EV0, B8.alloc B8.size EV0⟩, h1, _, p0, q0, rfl, Z1.alloc EV0, G1, N1_0, N1_1, N1_2, S6.new w' (.bool false) (.slice none 0 0) (.slice none 0 0) (.bool false) (.slice none 0 0) (.slice none 0 0), B8.size, Nat.ne_of_lt B0.lt, Nat.ne_of_lt B1.lt, Nat.ne_of_lt B2.lt, Nat.ne_of_lt Z1.lt, C0.alloc EV0, D0.alloc EV0⟩
            exact AllReadyH.nil
          · obtain ⟨⟨B0, B1, B2, B3, B4, B5, B6, B7, B8⟩, h1, p0, q0, p1, q1, rfl, Z1, G1, N1_0, N1_1, N1_2, C0, D0, C1, D1⟩ := hI
            change wpAnyH _ _ _ _ _ (5 + 1) #[true, true, true, true, true, true, true, false, false, true, false, false, false, false] _ _
            try simp only [Act.put, List.getElem_toArray, List.getElem_cons_succ, List.getElem_cons_zero, List.setIfInBounds_toArray, List.set_cons_zero, List.set_cons_succ]
            refine wpAnyH_ready (rs := [7, 8, 10]) (by kernel_rfl) (by simp) ?_
            refine AllReadyH.cons rfl (fun K hK => ?_) ?_
            · go_simp
              go_at_call 21
              with_reducible refine (iscale_e _ _ _ p q z M1 M2 _ HM1.out HM2.out B3 B4 B7 lt1 HP.out.1 sp sq sz_).mono ?_
              rintro e x9 ⟨p2, q2, rfl, C2, D2, b9⟩
              try dsimp only
              refine hK.out _ _ ?_ (fun hHeld => ?_)
              · (try dsimp only); exact ⟨(B0.below b9 B0.lt).cell0, (B0.below b9 B0.lt).cell1, (B0.below b9 B0.lt).cell2, (B0.below b9 B0.lt).cell3, (B0.below b9 B0.lt).cell4, (B0.below b9 B0.lt).cell5, (B1.below b9 B1.lt).cell0, (B1.below b9 B1.lt).cell1, (B1.below b9 B1.lt).cell2, (B1.below b9 B1.lt).cell3, (B1.below b9 B1.lt).cell4, (B1.below b9 B1.lt).cell5, (B2.below b9 B2.lt).cell0, (B2.below b9 B2.lt).cell1, (B2.below b9 B2.lt).cell2⟩
              · exact ih (false, true, false, 3) (by decide) _ _ ⟨⟨B0.below b9 B0.lt, B1.below b9 B1.lt, B2.below b9 B2.lt, B3.below b9, B4.below b9, B5.below b9, B6.below b9, B7.below b9, below_then B8 (Nat.le_refl _) b9⟩, h1, p0, q0, p1, q1, p2, q2, rfl, Z1.below b9 Z1.lt, G1, N1_0, N1_1, N1_2, C0.below b9, D0.below b9, C1.below b9, D1.below b9, C2, D2⟩
            refine AllReadyH.cons rfl (fun K hK => ?_) ?_
            · go_simp
              refine hK.out _ _ ?_ (fun hHeld => ?_)
              · (try dsimp only); exact ⟨(B0.alloc EV0).cell0, (B0.alloc EV0).cell1, (B0.alloc EV0).cell2, (B0.alloc EV0).cell3, (B0.alloc EV0).cell4, (B0.alloc EV0).cell5, (B1.alloc EV0).cell0, (B1.alloc EV0).cell1, (B1.alloc EV0).cell2, (B1.alloc EV0).cell3, (B1.alloc EV0).cell4, (B1.alloc EV0).cell5, (B2.alloc EV0).cell0, (B2.alloc EV0).cell1, (B2.alloc EV0).cell2⟩
              · exact ih (true, true, false, 2) (by decide) _ _ ⟨⟨B0.alloc EV0, B1.alloc EV0, B2.alloc EV0, B3.alloc EV0, B4.alloc EV0, B5.alloc EV0, B6.alloc EV0, B7.alloc EV0, B8.alloc B8.size EV0⟩, _, h1, p0, q0, p1, q1, rfl, S6.new w' (.bool false) (.slice none 0 0) (.slice none 0 0) (.bool false) (.slice none 0 0) (.slice none 0 0), B8.size, Nat.ne_of_lt B0.lt, Nat.ne_of_lt B1.lt, Nat.ne_of_lt B2.lt, Z1.alloc EV0, G1, N1_0, N1_1, N1_2, Nat.ne_of_gt Z1.lt, C0.alloc EV0, D0.alloc EV0, C1.alloc EV0, D1.alloc EV0⟩
            refine AllReadyH.cons rfl (fun K hK => ?_) ?_
            · go_simp
              refine hK.out _ _ ?_ (fun hHeld => ?_)
              · (try dsimp only); exact ⟨(B0.alloc EV0).cell0, (B0.alloc EV0).cell1, (B0.alloc EV0).cell2, (B0.alloc EV0).cell3, (B0.alloc EV0).cell4, (B0.alloc EV0).cell5, (B1.alloc EV0).cell0, (B1.alloc EV0).cell1, (B1.alloc EV0).cell2, (B1.alloc EV0).cell3, (B1.alloc EV0).cell4, (B1.alloc EV0).cell5, (B2.alloc EV0).cell0, (B2.alloc EV0).cell1, (B2.alloc EV0).cell2⟩
              · exact ih (false, true, true, 2) (by decide) _ _ ⟨⟨B0.alloc EV0, B1.alloc EV0, B2.alloc EV0, B3.alloc EV0, B4.alloc EV0, B5.alloc EV0, B6.alloc EV0, B7.alloc EV0, B8.alloc B8.size EV0⟩, h1, _, p0, q0, p1, q1, rfl, Z1.alloc EV0, G1, N1_0, N1_1, N1_2, S6.new w' (.bool false) (.slice none 0 0) (.slice none 0 0) (.bool false) (.slice none 0 0) (.slice none 0 0), B8.size, Nat.ne_of_lt B0.lt, Nat.ne_of_lt B1.lt, Nat.ne_of_lt B2.lt, Nat.ne_of_lt Z1.lt, C0.alloc EV0, D0.alloc EV0, C1.alloc EV0, D1.alloc EV0⟩
            exact AllReadyH.nil
          · obtain ⟨⟨B0, B1, B2, B3, B4, B5, B6, B7, B8⟩, h1, p0, q0, p1, q1, p2, q2, rfl, Z1, G1, N1_0, N1_1, N1_2, C0, D0, C1, D1, C2, D2⟩ := hI
            change wpAnyH _ _ _ _ _ (4 + 1) #[true, true, true, true, true, true, true, true, false, true, false, false, false, false] _ _
            try simp only [Act.put, List.getElem_toArray, List.getElem_cons_succ, List.getElem_cons_zero, List.setIfInBounds_toArray, List.set_cons_zero, List.set_cons_succ]
            refine wpAnyH_ready (rs := [8, 10]) (by kernel_rfl) (by simp) ?_
            refine AllReadyH.cons rfl (fun K hK => ?_) ?_
            · go_simp
              refine hK.out _ _ ?_ (fun hHeld => ?_)
              · (try dsimp only); exact ⟨(B0.alloc EV0).cell0, (B0.alloc EV0).cell1, (B0.alloc EV0).cell2, (B0.alloc EV0).cell3, (B0.alloc EV0).cell4, (B0.alloc EV0).cell5, (B1.alloc EV0).cell0, (B1.alloc EV0).cell1, (B1.alloc EV0).cell2, (B1.alloc EV0).cell3, (B1.alloc EV0).cell4, (B1.alloc EV0).cell5, (B2.alloc EV0).cell0, (B2.alloc EV0).cell1, (B2.alloc EV0).cell2⟩
              · exact ih (true, true, false, 3) (by decide) _ _ ⟨⟨B0.alloc EV0, B1.alloc EV0, B2.alloc EV0, B3.alloc EV0, B4.alloc EV0, B5.alloc EV0, B6.alloc EV0, B7.alloc EV0, B8.alloc B8.size EV0⟩, _, h1, p0, q0, p1, q1, p2, q2, rfl, S6.new w' (.bool false) (.slice none 0 0) (.slice none 0 0) (.bool false) (.slice none 0 0) (.slice none 0 0), B8.size, Nat.ne_of_lt B0.lt, Nat.ne_of_lt B1.lt, Nat.ne_of_lt B2.lt, Z1.alloc EV0, G1, N1_0, N1_1, N1_2, Nat.ne_of_gt Z1.lt, C0.alloc EV0, D0.alloc EV0, C1.alloc EV0, D1.alloc EV0, C2.alloc EV0, D2.alloc EV0⟩
            refine AllReadyH.cons rfl (fun K hK => ?_) ?_
            · go_simp
              refine hK.out _ _ ?_ (fun hHeld => ?_)
              · (try dsimp only); exact ⟨(B0.alloc EV0).cell0, (B0.alloc EV0).cell1, (B0.alloc EV0).cell2, (B0.alloc EV0).cell3, (B0.alloc EV0).cell4, (B0.alloc EV0).cell5, (B1.alloc EV0).cell0, (B1.alloc EV0).cell1, (B1.alloc EV0).cell2, (B1.alloc EV0).cell3, (B1.alloc EV0).cell4, (B1.alloc EV0).cell5, (B2.alloc EV0).cell0, (B2.alloc EV0).cell1, (B2.alloc EV0).cell2⟩
              · exact ih (false, true, true, 3) (by decide) _ _ ⟨⟨B0.alloc EV0, B1.alloc EV0, B2.alloc EV0, B3.alloc EV0, B4.alloc EV0, B5.alloc EV0, B6.alloc EV0, B7.alloc EV0, B8.alloc B8.size EV0⟩, h1, _, p0, q0, p1, q1, p2, q2, rfl, Z1.alloc EV0, G1, N1_0, N1_1, N1_2, S6.new w' (.bool false) (.slice none 0 0) (.slice none 0 0) (.bool false) (.slice none 0 0) (.slice none 0 0), B8.size, Nat.ne_of_lt B0.lt, Nat.ne_of_lt B1.lt, Nat.ne_of_lt B2.lt, Nat.ne_of_lt Z1.lt, C0.alloc EV0, D0.alloc EV0, C1.alloc EV0, D1.alloc EV0, C2.alloc EV0, D2.alloc EV0⟩
            exact AllReadyH.nil
          · exact hI.2.elim
        · rcases c with _ | _ | _ | _ | c
          · obtain ⟨⟨B0, B1, B2, B3, B4, B5, B6, B7, B8⟩, h1, h2, rfl, Z1, G1, N1_0, N1_1, N1_2, Z2, G2, N2_0, N2_1, N2_2, M1_2⟩ := hI
            change wpAnyH _ _ _ _ _ (6 + 1) #[true, true, false, true, false, true, true, false, false, true, true, false, false, false] _ _
            try simp only [Act.put, List.getElem_toArray, List.getElem_cons_succ, List.getElem_cons_zero, List.setIfInBounds_toArray, List.set_cons_zero, List.set_cons_succ]
            refine wpAnyH_ready (rs := [2, 8]) (by kernel_rfl) (by simp) ?_
            refine AllReadyH.cons rfl (fun K hK => ?_) ?_
            · go_simp
              go_at_call 19
              with_reducible refine (iadd_e _ _ _ _ p q p' q' S1 S2 _ HS1.out HS2.out B3 B4 B5 B6 HP.out.1 HP.out.2 sp sq sp' sq').mono ?_
              rintro e x9 ⟨p0, q0, rfl, C0, D0, b9⟩
              try dsimp only
              refine hK.out _ _ ?_ (fun hHeld => ?_)
              · (try dsimp only); exact ⟨(B0.below b9 B0.lt).cell0, (B0.below b9 B0.lt).cell1, (B0.below b9 B0.lt).cell2, (B0.below b9 B0.lt).cell3, (B0.below b9 B0.lt).cell4, (B0.below b9 B0.lt).cell5, (B1.below b9 B1.lt).cell0, (B1.below b9 B1.lt).cell1, (B1.below b9 B1.lt).cell2, (B1.below b9 B1.lt).cell3, (B1.below b9 B1.lt).cell4, (B1.below b9 B1.lt).cell5, (B2.below b9 B2.lt).cell0, (B2.below b9 B2.lt).cell1, (B2.below b9 B2.lt).cell2⟩
              · exact ih (false, true, true, 1) (by decide) _ _ ⟨⟨B0.below b9 B0.lt, B1.below b9 B1.lt, B2.below b9 B2.lt, B3.below b9, B4.below b9, B5.below b9, B6.below b9, B7.below b9, below_then B8 (Nat.le_refl _) b9⟩, h1, h2, p0, q0, rfl, Z1.below b9 Z1.lt, G1, N1_0, N1_1, N1_2, Z2.below b9 Z2.lt, G2, N2_0, N2_1, N2_2, M1_2, C0, D0⟩
            refine AllReadyH.cons rfl (fun K hK => ?_) ?_
            · go_simp
              refine hK.out _ _ ?_ (fun hHeld => ?_)
              · (try dsimp only); exact ⟨(B0.alloc EV0).cell0, (B0.alloc EV0).cell1, (B0.alloc EV0).cell2, (B0.alloc EV0).cell3, (B0.alloc EV0).cell4, (B0.alloc EV0).cell5, (B1.alloc EV0).cell0, (B1.alloc EV0).cell1, (B1.alloc EV0).cell2, (B1.alloc EV0).cell3, (B1.alloc EV0).cell4, (B1.alloc EV0).cell5, (B2.alloc EV0).cell0, (B2.alloc EV0).cell1, (B2.alloc EV0).cell2⟩
              · exact ih (true, true, true, 0) (by decide) _ _ ⟨⟨B0.alloc EV0, B1.alloc EV0, B2.alloc EV0, B3.alloc EV0, B4.alloc EV0, B5.alloc EV0, B6.alloc EV0, B7.alloc EV0, B8.alloc B8.size EV0⟩, _, h1, h2, rfl, S6.new w' (.bool false) (.slice none 0 0) (.slice none 0 0) (.bool false) (.slice none 0 0) (.slice none 0 0), B8.size, Nat.ne_of_lt B0.lt, Nat.ne_of_lt B1.lt, Nat.ne_of_lt B2.lt, Z1.alloc EV0, G1, N1_0, N1_1, N1_2, Nat.ne_of_gt Z1.lt, Z2.alloc EV0, G2, N2_0, N2_1, N2_2, Nat.ne_of_gt Z2.lt, M1_2⟩
            exact AllReadyH.nil
          · obtain ⟨⟨B0, B1, B2, B3, B4, B5, B6, B7, B8⟩, h1, h2, p0, q0, rfl, Z1, G1, N1_0, N1_1, N1_2, Z2, G2, N2_0, N2_1, N2_2, M1_2, C0, D0⟩ := hI
            change wpAnyH _ _ _ _ _ (5 + 1) #[true, true, true, true, false, true, true, false, false, true, true, false, false, false] _ _
            try simp only [Act.put, List.getElem_toArray, List.getElem_cons_succ, List.getElem_cons_zero, List.setIfInBounds_toArray, List.set_cons_zero, List.set_cons_succ]
            refine wpAnyH_ready (rs := [4, 8]) (by kernel_rfl) (by simp) ?_
            refine AllReadyH.cons rfl (fun K hK => ?_) ?_
            · go_simp
              go_at_call 20
              with_reducible refine (ineg_e _ _ p q N1 N2 _ HN1.out HN2.out B3 B4 HP.out.1 sp sq).mono ?_
              rintro e x9 ⟨p1, q1, rfl, C1, D1, b9⟩
              try dsimp only
              refine hK.out _ _ ?_ (fun hHeld => ?_)
              · (try dsimp only); exact ⟨(B0.below b9 B0.lt).cell0, (B0.below b9 B0.lt).cell1, (B0.below b9 B0.lt).cell2, (B0.below b9 B0.lt).cell3, (B0.below b9 B0.lt).cell4, (B0.below b9 B0.lt).cell5, (B1.below b9 B1.lt).cell0, (B1.below b9 B1.lt).cell1, (B1.below b9 B1.lt).cell2, (B1.below b9 B1.lt).cell3, (B1.below b9 B1.lt).cell4, (B1.below b9 B1.lt).cell5, (B2.below b9 B2.lt).cell0, (B2.below b9 B2.lt).cell1, (B2.below b9 B2.lt).cell2⟩
              · exact ih (false, true, true, 2) (by decide) _ _ ⟨⟨B0.below b9 B0.lt, B1.below b9 B1.lt, B2.below b9 B2.lt, B3.below b9, B4.below b9, B5.below b9, B6.below b9, B7.below b9, below_then B8 (Nat.le_refl _) b9⟩, h1, h2, p0, q0, p1, q1, rfl, Z1.below b9 Z1.lt, G1, N1_0, N1_1, N1_2, Z2.below b9 Z2.lt, G2, N2_0, N2_1, N2_2, M1_2, C0.below b9, D0.below b9, C1, D1⟩
            refine AllReadyH.cons rfl (fun K hK => ?_) ?_
            · go_simp
              refine hK.out _ _ ?_ (fun hHeld => ?_)
              · (try dsimp only); exact ⟨(B0.alloc EV0).cell0, (B0.alloc EV0).cell1, (B0.alloc EV0).cell2, (B0.alloc EV0).cell3, (B0.alloc EV0).cell4, (B0.alloc EV0).cell5, (B1.alloc EV0).cell0, (B1.alloc EV0).cell1, (B1.alloc EV0).cell2, (B1.alloc EV0).cell3, (B1.alloc EV0).cell4, (B1.alloc EV0).cell5, (B2.alloc EV0).cell0, (B2.alloc EV0).cell1, (B2.alloc EV0).cell2⟩
              · exact ih (true, true, true, 1) (by decide) _ _ ⟨⟨B0.alloc EV0, B1.alloc EV0, B2.alloc EV0, B3.alloc EV0, B4.alloc EV0, B5.alloc EV0, B6.alloc EV0, B7.alloc EV0, B8.alloc B8.size EV0⟩, _, h1, h2, p0, q0, rfl, S6.new w' (.bool false) (.slice none 0 0) (.slice none 0 0) (.bool false) (.slice none 0 0) (.slice none 0 0), B8.size, Nat.ne_of_lt B0.lt, Nat.ne_of_lt B1.lt, Nat.ne_of_lt B2.lt, Z1.alloc EV0, G1, N1_0, N1_1, N1_2, Nat.ne_of_gt Z1.lt, Z2.alloc EV0, G2, N2_0, N2_1, N2_2, Nat.ne_of_gt Z2.lt, M1_2, C0.alloc EV0, D0.alloc EV0⟩
            exact AllReadyH.nil
          · obtain ⟨⟨B0, B1, B2, B3, B4, B5, B6, B7, B8⟩, h1, h2, p0, q0, p1, q1, rfl, Z1, G1, N1_0, N1_1, N1_2, Z2, G2, N2_0, N2_1, N2_2, M1_2, C0, D0, C1, D1⟩ := hI
            change wpAnyH _ _ _ _ _ (4 + 1) #[true, true, true, true, true, true, true, false, false, true, true, false, false, false] _ _
            try simp only [Act.put, List.getElem_toArray, List.getElem_cons_succ, List.getElem_cons_zero, List.setIfInBounds_toArray, List.set_cons_zero, List.set_cons_succ]
            refine wpAnyH_ready (rs := [7, 8]) (by kernel_rfl) (by simp) ?_
            refine AllReadyH.cons rfl (fun K hK => ?_) ?_
            · go_simp
              go_at_call 21
              with_reducible refine (iscale_e _ _ _ p q z M1 M2 _ HM1.out HM2.out B3 B4 B7 lt1 HP.out.1 sp sq sz_).mono ?_
              rintro e x9 ⟨p2, q2, rfl, C2, D2, b9⟩
              try dsimp only
              refine hK.out _ _ ?_ (fun hHeld => ?_)
              · (try dsimp only); exact ⟨(B0.below b9 B0.lt).cell0, (B0.below b9 B0.lt).cell1, (B0.below b9 B0.lt).cell2, (B0.below b9 B0.lt).cell3, (B0.below b9 B0.lt).cell4, (B0.below b9 B0.lt).cell5, (B1.below b9 B1.lt).cell0, (B1.below b9 B1.lt).cell1, (B1.below b9 B1.lt).cell2, (B1.below b9 B1.lt).cell3, (B1.below b9 B1.lt).cell4, (B1.below b9 B1.lt).cell5, (B2.below b9 B2.lt).cell0, (B2.below b9 B2.lt).cell1, (B2.below b9 B2.lt).cell2⟩
              · exact ih (false, true, true, 3) (by decide) _ _ ⟨⟨B0.below b9 B0.lt, B1.below b9 B1.lt, B2.below b9 B2.lt, B3.below b9, B4.below b9, B5.below b9, B6.below b9, B7.below b9, below_then B8 (Nat.le_refl _) b9⟩, h1, h2, p0, q0, p1, q1, p2, q2, rfl, Z1.below b9 Z1.lt, G1, N1_0, N1_1, N1_2, Z2.below b9 Z2.lt, G2, N2_0, N2_1, N2_2, M1_2, C0.below b9, D0.below b9, C1.below b9, D1.below b9, C2, D2⟩
            refine AllReadyH.cons rfl (fun K hK => ?_) ?_
            · go_simp
              refine hK.out _ _ ?_ (fun hHeld => ?_)
              · (try dsimp only); exact ⟨(B0.alloc EV0).cell0, (B0.alloc EV0).cell1, (B0.alloc EV0).cell2, (B0.alloc EV0).cell3, (B0.alloc EV0).cell4, (B0.alloc EV0).cell5, (B1.alloc EV0).cell0, (B1.alloc EV0).cell1, (B1.alloc EV0).cell2, (B1.alloc EV0).cell3, (B1.alloc EV0).cell4, (B1.alloc EV0).cell5, (B2.alloc EV0).cell0, (B2.alloc EV0).cell1, (B2.alloc EV0).cell2⟩
              · exact ih (true, true, true, 2) (by decide) _ _ ⟨⟨B0.alloc EV0, B1.alloc EV0, B2.alloc EV0, B3.alloc EV0, B4.alloc EV0, B5.alloc EV0, B6.alloc EV0, B7.alloc EV0, B8.alloc B8.size EV0⟩, _, h1, h2, p0, q0, p1, q1, rfl, S6.new w' (.bool false) (.slice none 0 0) (.slice none 0 0) (.bool false) (.slice none 0 0) (.slice none 0 0), B8.size, Nat.ne_of_lt B0.lt, Nat.ne_of_lt B1.lt, Nat.ne_of_lt B2.lt, Z1.alloc EV0, G1, N1_0, N1_1, N1_2, Nat.ne_of_gt Z1.lt, Z2.alloc EV0, G2, N2_0, N2_1, N2_2, Nat.ne_of_gt Z2.lt, M1_2, C0.alloc EV0, D0.alloc EV0, C1.alloc EV0, D1.alloc EV0⟩
            exact AllReadyH.nil
          · obtain ⟨⟨B0, B1, B2, B3, B4, B5, B6, B7, B8⟩, h1, h2, p0, q0, p1, q1, p2, q2, rfl, Z1, G1, N1_0, N1_1, N1_2, Z2, G2, N2_0, N2_1, N2_2, M1_2, C0, D0, C1, D1, C2, D2⟩ := hI
            change wpAnyH _ _ _ _ _ (3 + 1) #[true, true, true, true, true, true, true, true, false, true, true, false, false, false] _ _
            try simp only [Act.put, List.getElem_toArray, List.getElem_cons_succ, List.getElem_cons_zero, List.setIfInBounds_toArray, List.set_cons_zero, List.set_cons_succ]
            refine wpAnyH_ready (rs := [8]) (by kernel_rfl) (by simp) ?_
            refine AllReadyH.cons rfl (fun K hK => ?_) ?_
            · go_simp
              refine hK.out _ _ ?_ (fun hHeld => ?_)
              · (try dsimp only); exact ⟨(B0.alloc EV0).cell0, (B0.alloc EV0).cell1, (B0.alloc EV0).cell2, (B0.alloc EV0).cell3, (B0.alloc EV0).cell4, (B0.alloc EV0).cell5, (B1.alloc EV0).cell0, (B1.alloc EV0).cell1, (B1.alloc EV0).cell2, (B1.alloc EV0).cell3, (B1.alloc EV0).cell4, (B1.alloc EV0).cell5, (B2.alloc EV0).cell0, (B2.alloc EV0).cell1, (B2.alloc EV0).cell2⟩
              · exact ih (true, true, true, 3) (by decide) _ _ ⟨⟨B0.alloc EV0, B1.alloc EV0, B2.alloc EV0, B3.alloc EV0, B4.alloc EV0, B5.alloc EV0, B6.alloc EV0, B7.alloc EV0, B8.alloc B8.size EV0⟩, _, h1, h2, p0, q0, p1, q1, p2, q2, rfl, S6.new w' (.bool false) (.slice none 0 0) (.slice none 0 0) (.bool false) (.slice none 0 0) (.slice none 0 0), B8.size, Nat.ne_of_lt B0.lt, Nat.ne_of_lt B1.lt, Nat.ne_of_lt B2.lt, Z1.alloc EV0, G1, N1_0, N1_1, N1_2, Nat.ne_of_gt Z1.lt, Z2.alloc EV0, G2, N2_0, N2_1, N2_2, Nat.ne_of_gt Z2.lt, M1_2, C0.alloc EV0, D0.alloc EV0, C1.alloc EV0, D1.alloc EV0, C2.alloc EV0, D2.alloc EV0⟩
            exact AllReadyH.nil
          · exact hI.2.elim
    · rcases t1 with _ | _
      · rcases t2 with _ | _
        · rcases c with _ | _ | _ | _ | c
          · obtain ⟨⟨B0, B1, B2, B3, B4, B5, B6, B7, B8⟩, h0, rfl, Z0, G0, N0_0, N0_1, N0_2⟩ := hI
            change wpAnyH _ _ _ _ _ (7 + 1) #[true, true, false, true, false, true, true, false, true, false, false, false, false, false] _ _
            try simp only [Act.put, List.getElem_toArray, List.getElem_cons_succ, List.getElem_cons_zero, List.setIfInBounds_toArray, List.set_cons_zero, List.set_cons_succ]
            refine wpAnyH_ready (rs := [2, 9, 10]) (by kernel_rfl) (by simp) ?_
            refine AllReadyH.cons rfl (fun K hK => ?_) ?_
            · go_simp
              go_at_call 19
              with_reducible refine (iadd_e _ _ _ _ p q p' q' S1 S2 _ HS1.out HS2.out B3 B4 B5 B6 HP.out.1 HP.out.2 sp sq sp' sq').mono ?_
              rintro e x9 ⟨p0, q0, rfl, C0, D0, b9⟩
              try dsimp only
              refine hK.out _ _ ?_ (fun hHeld => ?_)
              · (try dsimp only); exact ⟨(B0.below b9 B0.lt).cell0, (B0.below b9 B0.lt).cell1, (B0.below b9 B0.lt).cell2, (B0.below b9 B0.lt).cell3, (B0.below b9 B0.lt).cell4, (B0.below b9 B0.lt).cell5, (B1.below b9 B1.lt).cell0, (B1.below b9 B1.lt).cell1, (B1.below b9 B1.lt).cell2, (B1.below b9 B1.lt).cell3, (B1.below b9 B1.lt).cell4, (B1.below b9 B1.lt).cell5, (B2.below b9 B2.lt).cell0, (B2.below b9 B2.lt).cell1, (B2.below b9 B2.lt).cell2⟩
              · exact ih (true, false, false, 1) (by decide) _ _ ⟨⟨B0.below b9 B0.lt, B1.below b9 B1.lt, B2.below b9 B2.lt, B3.below b9, B4.below b9, B5.below b9, B6.below b9, B7.below b9, below_then B8 (Nat.le_refl _) b9⟩, h0, p0, q0, rfl, Z0.below b9 Z0.lt, G0, N0_0, N0_1, N0_2, C0, D0⟩
            refine AllReadyH.cons rfl (fun K hK => ?_) ?_
            · go_simp
              refine hK.out _ _ ?_ (fun hHeld => ?_)
              · (try dsimp only); exact ⟨(B0.alloc EV0).cell0, (B0.alloc EV0).cell1, (B0.alloc EV0).cell2, (B0.alloc EV0).cell3, (B0.alloc EV0).cell4, (B0.alloc EV0).cell5, (B1.alloc EV0).cell0, (B1.alloc EV0).cell1, (B1.alloc EV0).cell2, (B1.alloc EV0).cell3, (B1.alloc EV0).cell4, (B1.alloc EV0).cell5, (B2.alloc EV0).cell0, (B2.alloc EV0).cell1, (B2.alloc EV0).cell2⟩
              · exact ih (true, true, false, 0) (by decide) _ _ ⟨⟨B0.alloc EV0, B1.alloc EV0, B2.alloc EV0, B3.alloc EV0, B4.alloc EV0, B5.alloc EV0, B6.alloc EV0, B7.alloc EV0, B8.alloc B8.size EV0⟩, h0, _, rfl, Z0.alloc EV0, G0, N0_0, N0_1, N0_2, S6.new w' (.bool false) (.slice none 0 0) (.slice none 0 0) (.bool false) (.slice none 0 0) (.slice none 0 0), B8.size, Nat.ne_of_lt B0.lt, Nat.ne_of_lt B1.lt, Nat.ne_of_lt B2.lt, Nat.ne_of_lt Z0.lt⟩
            refine AllReadyH.cons rfl (fun K hK => ?_) ?_
            · go_simp
              refine hK.out _ _ ?_ (fun hHeld => ?_)
              · (try dsimp only); exact ⟨(B0.alloc EV0).cell0, (B0.alloc EV0).cell1, (B0.alloc EV0).cell2, (B0.alloc EV0).cell3, (B0.alloc EV0).cell4, (B0.alloc EV0).cell5, (B1.alloc EV0).cell0, (B1.alloc EV0).cell1, (B1.alloc EV0).cell2, (B1.alloc EV0).cell3, (B1.alloc EV0).cell4, (B1.alloc EV0).cell5, (B2.alloc EV0).cell0, (B2.alloc EV0).cell1, (B2.alloc EV0).cell2⟩
              · exact ih (true, false, true, 0) (by decide) _ _ ⟨⟨B0.alloc EV0, B1.alloc EV0, B2.alloc EV0, B3.alloc EV0, B4.alloc EV0, B5.alloc EV0, B6.alloc EV0, B7.alloc EV0, B8.alloc B8.size EV0⟩, h0, _, rfl, Z0.alloc EV0, G0, N0_0, N0_1, N0_2, S6.new w' (.bool false) (.slice none 0 0) (.slice none 0 0) (.bool false) (.slice none 0 0) (.slice none 0 0), B8.size, Nat.ne_of_lt B0.lt, Nat.ne_of_lt B1.lt, Nat.ne_of_lt B2.lt, Nat.ne_of_lt Z0.lt⟩
            exact AllReadyH.nil
          · obtain ⟨⟨B0, B1, B2, B3, B4, B5, B6, B7, B8⟩, h0, p0, q0, rfl, Z0, G0, N0_0, N0_1, N0_2, C0, D0⟩ := hI
            change wpAnyH _ _ _ _ _ (6 + 1) #[true, true, true, true, false, true, true, false, true, false, false, false, false, false] _ _
            try simp only [Act.put, List.getElem_toArray, List.getElem_cons_succ, List.getElem_cons_zero, List.setIfInBounds_toArray, List.set_cons_zero, List.set_cons_succ]
            refine wpAnyH_ready (rs := [4, 9, 10]) (by kernel_rfl) (by simp) ?_
            refine AllReadyH.cons rfl (fun K hK => ?_) ?_
            · go_simp
              go_at_call 20
              with_reducible refine (ineg_e _ _ p q N1 N2 _ HN1.out HN2.out B3 B4 HP.out.1 sp sq).mono ?_
              rintro e x9 ⟨p1, q1, rfl, C1, D1, b9⟩
              try dsimp only
              refine hK.out _ _ ?_ (fun hHeld => ?_)
              · (try dsimp only); exact ⟨(B0.below b9 B0.lt).cell0, (B0.below b9 B0.lt).cell1, (B0.below b9 B0.lt).cell2, (B0.below b9 B0.lt).cell3, (B0.below b9 B0.lt).cell4, (B0.below b9 B0.lt).cell5, (B1.below b9 B1.lt).cell0, (B1.below b9 B1.lt).cell1, (B1.below b9 B1.lt).cell2, (B1.below b9 B1.lt).cell3, (B1.below b9 B1.lt).cell4, (B1.below b9 B1.lt).cell5, (B2.below b9 B2.lt).cell0, (B2.below b9 B2.lt).cell1, (B2.below b9 B2.lt).cell2⟩
              · exact ih (true, false, false, 2) (by decide) _ _ ⟨⟨B0.below b9 B0.lt, B1.below b9 B1.lt, B2.below b9 B2.lt, B3.below b9, B4.below b9, B5.below b9, B6.below b9, B7.below b9, below_then B8 (Nat.le_refl _) b9⟩, h0, p0, q0, p1, q1, rfl, Z0.below b9 Z0.lt, G0, N0_0, N0_1, N0_2, C0.below b9, D0.below b9, C1, D1⟩
            refine AllReadyH.cons rfl (fun K hK => ?_) ?_
            · go_simp
              refine hK.out _ _ ?_ (fun hHeld => ?_)
              · (try dsimp only); exact ⟨(B0.alloc EV0).cell0, (B0.alloc EV0).cell1, (B0.alloc EV0).cell2, (B0.alloc EV0).cell3, (B0.alloc EV0).cell4, (B0.alloc EV0).cell5, (B1.alloc EV0).cell0, (B1.alloc EV0).cell1, (B1.alloc EV0).cell2, (B1.alloc EV0).cell3, (B1.alloc EV0).cell4, (B1.alloc EV0).cell5, (B2.alloc EV0).cell0, (B2.alloc EV0).cell1, (B2.alloc EV0).cell2⟩
              · exact ih (true, true, false, 1) (by decide) _ _ ⟨⟨B0.alloc EV0, B1.alloc EV0, B2.alloc EV0, B3.alloc EV0, B4.alloc EV0, B5.alloc EV0, B6.alloc EV0, B7.alloc EV0, B8.alloc B8.size EV0⟩, h0, _, p0, q0, rfl, Z0.alloc EV0, G0, N0_0, N0_1, N0_2, S6.new w' (.bool false) (.slice none 0 0) (.slice none 0 0) (.bool false) (.slice none 0 0) (.slice none 0 0), B8.size, Nat.ne_of_lt B0.lt, Nat.ne_of_lt B1.lt, Nat.ne_of_lt B2.lt, Nat.ne_of_lt Z0.lt, C0.alloc EV0, D0.alloc EV0⟩
            refine AllReadyH.cons rfl (fun K hK => ?_) ?_
            · go_simp
              refine hK.out _ _ ?_ (fun hHeld => ?_)
              · (try dsimp only); exact ⟨(B0.alloc EV0).cell0, (B0.alloc EV0).cell1, (B0.alloc EV0).cell2, (B0.alloc EV0).cell3, (B0.alloc EV0).cell4, (B0.alloc EV0).cell5, (B1.alloc EV0).cell0, (B1.alloc EV0).cell1, (B1.alloc EV0).cell2, (B1.alloc EV0).cell3, (B1.alloc EV0).cell4, (B1.alloc EV0).cell5, (B2.alloc EV0).cell0, (B2.alloc EV0).cell1, (B2.alloc EV0).cell2⟩
              · exact ih (true, false, true, 1) (by decide) _ _ ⟨⟨B0.alloc EV0, B1.alloc EV0, B2.alloc EV0, B3.alloc EV0, B4.alloc EV0, B5.alloc EV0, B6.alloc EV0, B7.alloc EV0, B8.alloc B8.size EV0⟩, h0, _, p0, q0, rfl, Z0.alloc EV0, G0, N0_0, N0_1, N0_2, S6.new w' (.bool false) (.slice none 0 0) (.slice none 0 0) (.bool false) (.slice none 0 0) (.slice none 0 0), B8.size, Nat.ne_of_lt B0.lt, Nat.ne_of_lt B1.lt, Nat.ne_of_lt B2.lt, Nat.ne_of_lt Z0.lt, C0.alloc EV0, D0.alloc EV0⟩
            exact AllReadyH.nil
          · obtain ⟨⟨B0, B1, B2, B3, B4, B5, B6, B7, B8⟩, h0, p0, q0, p1, q1, rfl, Z0, G0, N0_0, N0_1, N0_2, C0, D0, C1, D1⟩ := hI
            change wpAnyH _ _ _ _ _ (5 + 1) #[true, true, true, true, true, true, true, false, true, false, false, false, false, false] _ _
            try simp only [Act.put, List.getElem_toArray, List.getElem_cons_succ, List.getElem_cons_zero, List.setIfInBounds_toArray, List.set_cons_zero, List.set_cons_succ]
            refine wpAnyH_ready (rs := [7, 9, 10]) (by kernel_rfl) (by simp) ?_
            refine AllReadyH.cons rfl (fun K hK => ?_) ?_
            · go_simp
              go_at_call 21
              with_reducible refine (iscale_e _ _ _ p q z M1 M2 _ HM1.out HM2.out B3 B4 B7 lt1 HP.out.1 sp sq sz_).mono ?_
              rintro e x9 ⟨p2, q2, rfl, C2, D2, b9⟩
              try dsimp only
              refine hK.out _ _ ?_ (fun hHeld => ?_)
              · (try dsimp only); exact ⟨(B0.below b9 B0.lt).cell0, (B0.below b9 B0.lt).cell1, (B0.below b9 B0.lt).cell2, (B0.below b9 B0.lt).cell3, (B0.below b9 B0.lt).cell4, (B0.below b9 B0.lt).cell5, (B1.below b9 B1.lt).cell0, (B1.below b9 B1.lt).cell1, (B1.below b9 B1.lt).cell2, (B1.below b9 B1.lt).cell3, (B1.below b9 B1.lt).cell4, (B1.below b9 B1.lt).cell5, (B2.below b9 B2.lt).cell0, (B2.below b9 B2.lt).cell1, (B2.below b9 B2.lt).cell2⟩
              · exact ih (true, false, false, 3) (by decide) _ _ ⟨⟨B0.below b9 B0.lt, B1.below b9 B1.lt, B2.below b9 B2.lt, B3.below b9, B4.below b9, B5.below b9, B6.below b9, B7.below b9, below_then B8 (Nat.le_refl _) b9⟩, h0, p0, q0, p1, q1, p2, q2, rfl, Z0.below b9 Z0.lt, G0, N0_0, N0_1, N0_2, C0.below b9, D0.below b9, C1.below b9, D1.below b9, C2, D2⟩
            refine AllReadyH.cons rfl (fun K hK => ?_) ?_
            · go_simp
              refine hK.out _ _ ?_ (fun hHeld => ?_)
              · (try dsimp only); exact ⟨(B0.alloc EV0).cell0, (B0.alloc EV0).cell1, (B0.alloc EV0).cell2, (B0.alloc EV0).cell3, (B0.alloc EV0).cell4, (B0.alloc EV0).cell5, (B1.alloc EV0).cell0, (B1.alloc EV0).cell1, (B1.alloc EV0).cell2, (B1.alloc EV0).cell3, (B1.alloc EV0).cell4, (B1.alloc EV0).cell5, (B2.alloc EV0).cell0, (B2.alloc EV0).cell1, (B2.alloc EV0).cell2⟩
              · exact ih (true, true, false, 2) (by decide) _ _ ⟨⟨B0.alloc EV0, B1.alloc EV0, B2.alloc EV0, B3.alloc EV0, B4.alloc EV0, B5.alloc EV0, B6.alloc EV0, B7.alloc EV0, B8.alloc B8.size EV0⟩, h0, _, p0, q0, p1, q1, rfl, Z0.alloc EV0, G0, N0_0, N0_1, N0_2, S6.new w' (.bool false) (.slice none 0 0) (.slice none 0 0) (.bool false) (.slice none 0 0) (.slice none 0 0), B8.size, Nat.ne_of_lt B0.lt, Nat.ne_of_lt B1.lt, Nat.ne_of_lt B2.lt, Nat.ne_of_lt Z0.lt, C0.alloc EV0, D0.alloc EV0, C1.alloc EV0, D1.alloc EV0⟩
            refine AllReadyH.cons rfl (fun K hK => ?_) ?_
            · go_simp
              refine hK.out _ _ ?_ (fun hHeld => ?_)
              · (try dsimp only); exact ⟨(B0.alloc EV0).cell0, (B0.alloc EV0).cell1, (B0.alloc EV0).cell2, (B0.alloc EV0).cell3, (B0.alloc EV0).cell4, (B0.alloc EV0).cell5, (B1.alloc EV0).cell0, (B1.alloc EV0).cell1, (B1.alloc EV0).cell2, (B1.alloc EV0).cell3, (B1.alloc EV0).cell4, (B1.alloc EV0).cell5, (B2.alloc EV0).cell0, (B2.alloc EV0).cell1, (B2.alloc EV0).cell2⟩
              · exact ih (true, false, true, 2) (by decide) _ _ ⟨⟨B0.alloc EV0, B1.alloc EV0, B2.alloc EV0, B3.alloc EV0, B4.alloc EV0, B5.alloc EV0, B6.alloc EV0, B7.alloc EV0, B8.alloc B8.size EV0⟩, h0, _, p0, q0, p1, q1, rfl, Z0.alloc EV0, G0, N0_0, N0_1, N0_2, S6.new w' (.bool false) (.slice none 0 0) (.slice none 0 0) (.bool false) (.slice none 0 0) (.slice none 0 0), B8.size, Nat.ne_of_lt B0.lt, Nat.ne_of_lt B1.lt, Nat.ne_of_lt B2.lt, Nat.ne_of_lt Z0.lt, C0.alloc EV0, D0.alloc EV0, C1.alloc EV0, D1.alloc EV0⟩
            exact AllReadyH.nil
          · obtain ⟨⟨B0, B1, B2, B3, B4, B5, B6, B7, B8⟩, h0, p0, q0, p1, q1, p2, q2, rfl, Z0, G0, N0_0, N0_1, N0_2, C0, D0, C1, D1, C2, D2⟩ := hI
            change wpAnyH _ _ _ _ _ (4 + 1) #[true, true, true, true, true, true, true, true, true, false, false, false, false, false] _ _
            try simp only [Act.put, List.getElem_toArray, List.getElem_cons_succ, List.getElem_cons_zero, List.setIfInBounds_toArray, List.set_cons_zero, List.set_cons_succ]
            refine wpAnyH_ready (rs := [9, 10]) (by kernel_rfl) (by simp) ?_
            refine AllReadyH.cons rfl (fun K hK => ?_) ?_
            · go_simp
              refine hK.out _ _ ?_ (fun hHeld => ?_)
              · (try dsimp only); exact ⟨(B0.alloc EV0).cell0, (B0.alloc EV0).cell1, (B0.alloc EV0).cell2, (B0.alloc EV0).cell3, (B0.alloc EV0).cell4, (B0.alloc EV0).cell5, (B1.alloc EV0).cell0, (B1.alloc EV0).cell1, (B1.alloc EV0).cell2, (B1.alloc EV0).cell3, (B1.alloc EV0).cell4, (B1.alloc EV0).cell5, (B2.alloc EV0).cell0, (B2.alloc EV0).cell1, (B2.alloc EV0).cell2⟩
              · exact ih (true, true, false, 3) (by decide) _ _ ⟨⟨B0.alloc EV0, B1.alloc EV0, B2.alloc EV0, B3.alloc EV0, B4.alloc EV0, B5.alloc EV0, B6.alloc EV0, B7.alloc EV0, B8.alloc B8.size EV0⟩, h0, _, p0, q0, p1, q1, p2, q2, rfl, Z0.alloc EV0, G0, N0_0, N0_1, N0_2, S6.new w' (.bool false) (.slice none 0 0) (.slice none 0 0) (.bool false) (.slice none 0 0) (.slice none 0 0), B8.size, Nat.ne_of_lt B0.lt, Nat.ne_of_lt B1.lt, Nat.ne_of_lt B2.lt, Nat.ne_of_lt Z0.lt, C0.alloc EV0, D0.alloc EV0, C1.alloc EV0, D1.alloc EV0, C2.alloc EV0, D2.alloc EV0⟩
            refine AllReadyH.cons rfl (fun K hK => ?_) ?_
            · go_simp
              refine hK.out _ _ ?_ (fun hHeld => ?_)
              · (try dsimp only); exact ⟨(B0.alloc EV0).cell0, (B0.alloc EV0).cell1, (B0.alloc EV0).cell2, (B0.alloc EV0).cell3, (B0.alloc EV0).cell4, (B0.alloc EV0).cell5, (B1.alloc EV0).cell0, (B1.alloc EV0).cell1, (B1.alloc EV0).cell2, (B1.alloc EV0).cell3, (B1.alloc EV0).cell4, (B1.alloc EV0).cell5, (B2.alloc EV0).cell0, (B2.alloc EV0).cell1, (B2.alloc EV0).cell2⟩
              · exact ih (true, false, true, 3) (by decide) _ _ ⟨⟨B0.alloc EV0, B1.alloc EV0, B2.alloc EV0, B3.alloc EV0, B4.alloc EV0, B5.alloc EV0, B6.alloc EV0, B7.alloc EV0, B8.alloc B8.size EV0⟩, h0, _, p0, q0, p1, q1, p2, q2, rfl, Z0.alloc EV0, G0, N0_0, N0_1, N0_2, S6.new w' (.bool false) (.slice none 0 0) (.slice none 0 0) (.bool false) (.slice none 0 0) (.slice none 0 0), B8.size, Nat.ne_of_lt B0.lt, Nat.ne_of_lt B1.lt, Nat.ne_of_lt B2.lt, Nat.ne_of_lt Z0.lt, C0.alloc EV0, D0.alloc EV0, C1.alloc EV0, D1.alloc EV0, C2.alloc EV0, D2.alloc EV0⟩
            exact AllReadyH.nil
          · exact hI.2.elim
        · rcases c with _ | _ | _ | _ | c
          · obtain ⟨⟨B0, B1, B2, B3, B4, B5, B6, B7, B8⟩, h0, h2, rfl, Z0, G0, N0_0, N0_1, N0_2, Z2, G2, N2_0, N2_1, N2_2, M0_2⟩ := hI
            change wpAnyH _ _ _ _ _ (6 + 1) #[true, true, false, true, false, true, true, false, true, false, true, false, false, false] _ _
            try simp only [Act.put, List.getElem_toArray, List.getElem_cons_succ, List.getElem_cons_zero, List.setIfInBounds_toArray, List.set_cons_zero, List.set_cons_succ]
            refine wpAnyH_ready (rs := [2, 9]) (by kernel_rfl) (by simp) ?_
            refine AllReadyH.cons rfl (fun K hK => ?_) ?_
            · go_simp
              go_at_call 19
              with_reducible refine (iadd_e _ _ _ _ p q p' q' S1 S2 _ HS1.out HS2.out B3 B4 B5 B6 HP.out.1 HP.out.2 sp sq sp' sq').mono ?_
              rintro e x9 ⟨p0, q0, rfl, C0, D0, b9⟩
              try dsimp only
              refine hK.out _ _ ?_ (fun hHeld => ?_)
              · (try dsimp only); exact ⟨(B0.below b9 B0.lt).cell0, (B0.below b9 B0.lt).cell1, (B0.below b9 B0.lt).cell2, (B0.below b9 B0.lt).cell3, (B0.below b9 B0.lt).cell4, (B0.below b9 B0.lt).cell5, (B1.below b9 B1.lt).cell0, (B1.below b9 B1.lt).cell1, (B1.below b9 B1.lt).cell2, (B1.below b9 B1.lt).cell3, (B1.below b9 B1.lt).cell4, (B1.below b9 B1.lt).cell5, (B2.below b9 B2.lt).cell0, (B2.below b9 B2.lt).cell1, (B2.below b9 B2.lt).cell2⟩
              · exact ih (true, false, true, 1) (by decide) _ _ ⟨⟨B0.below b9 B0.lt, B1.below b9 B1.lt, B2.below b9 B2.lt, B3.below b9, B4.below b9, B5.below b9, B6.below b9, B7.below b9, below_then B8 (Nat.le_refl _) b9⟩, h0, h2, p0, q0, rfl, Z0.below b9 Z0.lt, G0, N0_0, N0_1, N0_2, Z2.below b9 Z2.lt, G2, N2_0, N2_1, N2_2, M0_2, C0, D0⟩
            refine AllReadyH.cons rfl (fun K hK => ?_) ?_
            · go_simp
              refine hK.out _ _ ?_ (fun hHeld => ?_)
              · (try dsimp only); exact ⟨(B0.alloc EV0).cell0, (B0.alloc EV0).cell1, (B0.alloc EV0).cell2, (B0.alloc EV0).cell3, (B0.alloc EV0).cell4, (B0.alloc EV0).cell5, (B1.alloc EV0).cell0, (B1.alloc EV0).cell1, (B1.alloc EV0).cell2, (B1.alloc EV0).cell3, (B1.alloc EV0).cell4, (B1.alloc EV0).cell5, (B2.alloc EV0).cell0, (B2.alloc EV0).cell1, (B2.alloc EV0).cell2⟩
              · exact ih (true, true, true, 0) (by decide) _ _ ⟨⟨B0.alloc EV0, B1.alloc EV0, B2.alloc EV0, B3.alloc EV0, B4.alloc EV0, B5.alloc EV0, B6.alloc EV0, B7.alloc EV0, B8.alloc B8.size EV0⟩, h0, _, h2, rfl, Z0.alloc EV0, G0, N0_0, N0_1, N0_2, S6.new w' (.bool false) (.slice none 0 0) (.slice none 0 0) (.bool false) (.slice none 0 0) (.slice none 0 0), B8.size, Nat.ne_of_lt B0.lt, Nat.ne_of_lt B1.lt, Nat.ne_of_lt B2.lt, Nat.ne_of_lt Z0.lt, Z2.alloc EV0, G2, N2_0, N2_1, N2_2, M0_2, Nat.ne_of_gt Z2.lt⟩
            exact AllReadyH.nil
          · obtain ⟨⟨B0, B1, B2, B3, B4, B5, B6, B7, B8⟩, h0, h2, p0, q0, rfl, Z0, G0, N0_0, N0_1, N0_2, Z2, G2, N2_0, N2_1, N2_2, M0_2, C0, D0⟩ := hI
            change wpAnyH _ _ _ _ _ (5 + 1) #[true, true, true, true, false, true, true, false, true, false, true, false, false, false] _ _
            try simp only [Act.put, List.getElem_toArray, List.getElem_cons_succ, List.getElem_cons_zero, List.setIfInBounds_toArray, List.set_cons_zero, List.set_cons_succ]
            refine wpAnyH_ready (rs := [4, 9]) (by kernel_rfl) (by simp) ?_
            refine AllReadyH.cons rfl (fun K hK => ?_) ?_
            · go_simp
              go_at_call 20
              with_reducible refine (ineg_e _ _ p q N1 N2 _ HN1.out HN2.out B3 B4 HP.out.1 sp sq).mono ?_
              rintro e x9 ⟨p1, q1, rfl, C1, D1, b9⟩
              try dsimp only
              refine hK.out _ _ ?_ (fun hHeld => ?_)
              · (try dsimp only); exact ⟨(B0.below b9 B0.lt).cell0, (B0.below b9 B0.lt).cell1, (B0.below b9 B0.lt).cell2, (B0.below b9 B0.lt).cell3, (B0.below b9 B0.lt).cell4, (B0.below b9 B0.lt).cell5, (B1.below b9 B1.lt).cell0, (B1.below b9 B1.lt).cell1, (B1.below b9 B1.lt).cell2, (B1.below b9 B1.lt).cell3, (B1.below b9 B1.lt).cell4, (B1.below b9 B1.lt).cell5, (B2.below b9 B2.lt).cell0, (B2.below b9 B2.lt).cell1, (B2.below b9 B2.lt).cell2⟩
              · exact ih (true, false, true, 2) (by decide) _ _ ⟨⟨B0.below b9 B0.lt, B1.below b9 B1.lt, B2.below b9 B2.lt, B3.below b9, B4.below b9, B5.below b9, B6.below b9, B7.below b9, below_then B8 (Nat.le_refl _) b9⟩, h0, h2, p0, q0, p1, q1, rfl, Z0.below b9 Z0.lt, G0, N0_0, N0_1, N0_2, Z2.below b9 Z2.lt, G2, N2_0, N2_1, N2_2, M0_2, C0.below b9, D0.below b9, C1, D1⟩
            refine AllReadyH.cons rfl (fun K hK => ?_) ?_
            · go_simp
              refine hK.out _ _ ?_ (fun hHeld => ?_)
              · (try dsimp only); exact ⟨(B0.alloc EV0).cell0, (B0.alloc EV0).cell1, (B0.alloc EV0).cell2, (B0.alloc EV0).cell3, (B0.alloc EV0).cell4, (B0.alloc EV0).cell5, (B1.alloc EV0).cell0, (B1.alloc EV0).cell1, (B1.alloc EV0).cell2, (B1.alloc EV0).cell3, (B1.alloc EV0).cell4, (B1.alloc EV0).cell5, (B2.alloc EV0).cell0, (B2.alloc EV0).cell1, (B2.alloc EV0).cell2⟩
              · exact ih (true, true, true, 1) (by decide) _ _ ⟨⟨B0.alloc EV0, B1.alloc EV0, B2.alloc EV0, B3.alloc EV0, B4.alloc EV0, B5.alloc EV0, B6.alloc EV0, B7.alloc EV0, B8.alloc B8.size EV0⟩, h0, _, h2, p0, q0, rfl, Z0.alloc EV0, G0, N0_0, N0_1, N0_2, S6.new w' (.bool false) (.slice none 0 0) (.slice none 0 0) (.bool false) (.slice none 0 0) (.slice none 0 0), B8.size, Nat.ne_of_lt B0.lt, Nat.ne_of_lt B1.lt, Nat.ne_of_lt B2.lt, Nat.ne_of_lt Z0.lt, Z2.alloc EV0, G2, N2_0, N2_1, N2_2, M0_2, Nat.ne_of_gt Z2.lt, C0.alloc EV0, D0.alloc EV0⟩
            exact AllReadyH.nil
          · obtain ⟨⟨B0, B1, B2, B3, B4, B5, B6, B7, B8⟩, h0, h2, p0, q0, p1, q1, rfl, Z0, G0, N0_0, N0_1, N0_2, Z2, G2, N2_0, N2_1, N2_2, M0_2, C0, D0, C1, D1⟩ := hI
            change wpAnyH _ _ _ _ _ (4 + 1) #[true, true, true, true, true, true, true, false, true, false, true, false, false, false] _ _
            try simp only [Act.put, List.getElem_toArray, List.getElem_cons_succ, List.getElem_cons_zero, List.setIfInBounds_toArray, List.set_cons_zero, List.set_cons_succ]
            refine wpAnyH_ready (rs := [7, 9]) (by kernel_rfl) (by simp) ?_
            refine AllReadyH.cons rfl (fun K hK => ?_) ?_
            · go_simp
              go_at_call 21
              with_reducible refine (iscale_e _ _ _ p q z M1 M2 _ HM1.out HM2.out B3 B4 B7 lt1 HP.out.1 sp sq sz_).mono ?_
              rintro e x9 ⟨p2, q2, rfl, C2, D2, b9⟩
              try dsimp only
              refine hK.out _ _ ?_ (fun hHeld => ?_)
              · (try dsimp only); exact ⟨(B0.below b9 B0.lt).cell0, (B0.below b9 B0.lt).cell1, (B0.below b9 B0.lt).cell2, (B0.below b9 B0.lt).cell3, (B0.below b9 B0.lt).cell4, (B0.below b9 B0.lt).cell5, (B1.below b9 B1.lt).cell0, (B1.below b9 B1.lt).cell1, (B1.below b9 B1.lt).cell2, (B1.below b9 B1.lt).cell3, (B1.below b9 B1.lt).cell4, (B1.below b9 B1.lt).cell5, (B2.below b9 B2.lt).cell0, (B2.below b9 B2.lt).cell1, (B2.below b9 B2.lt).cell2⟩
              · exact ih (true, false, true, 3) (by decide) _ _ ⟨⟨B0.below b9 B0.lt, B1.below b9 B1.lt, B2.below b9 B2.lt, B3.below b9, B4.below b9, B5.below b9, B6.below b9, B7.below b9, below_then B8 (Nat.le_refl _) b9⟩, h0, h2, p0, q0, p1, q1, p2, q2, rfl, Z0.below b9 Z0.lt, G0, N0_0, N0_1, N0_2, Z2.below b9 Z2.lt, G2, N2_0, N2_1, N2_2, M0_2, C0.below b9, D0.below b9, C1.below b9, D1.below b9, C2, D2⟩
            refine AllReadyH.cons rfl (fun K hK => ?_) ?_
            · go_simp
              refine hK.out _ _ ?_ (fun hHeld => ?_)
              · (try dsimp only); exact ⟨(B0.alloc EV0).cell0, (B0.alloc EV0).cell1, (B0.alloc EV0).cell2, (B0.alloc EV0).cell3, (B0.alloc EV0).cell4, (B0.alloc EV0).cell5, (B1.alloc EV0).cell0, (B1.alloc EV0).cell1, (B1.alloc EV0).cell2, (B1.alloc EV0).cell3, (B1.alloc EV0).cell4, (B1.alloc EV0).cell5, (B2.alloc EV0).cell0, (B2.alloc EV0).cell1, (B2.alloc EV0).cell2⟩
              · exact ih (true, true, true, 2) (by decide) _ _ ⟨⟨B0.alloc EV0, B1.alloc EV0, B2.alloc EV0, B3.alloc EV0, B4.alloc EV0, B5.alloc EV0, B6.alloc EV0, B7.alloc EV0, B8.alloc B8.size EV0⟩, h0, _, h2, p0, q0, p1, q1, rfl, Z0.alloc EV0, G0, N0_0, N0_1, N0_2, S6.new w' (.bool false) (.slice none 0 0) (.slice none 0 0) (.bool false) (.slice none 0 0) (.slice none 0 0), B8.size, Nat.ne_of_lt B0.lt, Nat.ne_of_lt B1.lt, Nat.ne_of_lt B2.lt, Nat.ne_of_lt Z0.lt, Z2.alloc EV0, G2, N2_0, N2_1, N2_2, M0_2, Nat.ne_of_gt Z2.lt, C0.alloc EV0, D0.alloc EV0, C1.alloc EV0, D1.alloc EV0⟩
            exact AllReadyH.nil
          · obtain ⟨⟨B0, B1, B2, B3, B4, B5, B6, B7, B8⟩, h0, h2, p0, q0, p1, q1, p2, q2, rfl, Z0, G0, N0_0, N0_1, N0_2, Z2, G2, N2_0, N2_1, N2_2, M0_2, C0, D0, C1, D1, C2, D2⟩ := hI
            change wpAnyH _ _ _ _ _ (3 + 1) #[true, true, true, true, true, true, true, true, true, false, true, false, false, false] _ _
            try simp only [Act.put, List.getElem_toArray, List.getElem_cons_succ, List.getElem_cons_zero, List.setIfInBounds_toArray, List.set_cons_zero, List.set_cons_succ]
            refine wpAnyH_ready (rs := [9]) (by kernel_rfl) (by simp) ?_
            refine AllReadyH.cons rfl (fun K hK => ?_) ?_
            · go_simp
              refine hK.out _ _ ?_ (fun hHeld => ?_)
              · (try dsimp only); exact ⟨(B0.alloc EV0).cell0, (B0.alloc EV0).cell1, (B0.alloc EV0).cell2, (B0.alloc EV0).cell3, (B0.alloc EV0).cell4, (B0.alloc EV0).cell5, (B1.alloc EV0).cell0, (B1.alloc EV0).cell1, (B1.alloc EV0).cell2, (B1.alloc EV0).cell3, (B1.alloc EV0).cell4, (B1.alloc EV0).cell5, (B2.alloc EV0).cell0, (B2.alloc EV0).cell1, (B2.alloc EV0).cell2⟩
              · exact ih (true, true, true, 3) (by decide) _ _ ⟨⟨B0.alloc EV0, B1.alloc EV0, B2.alloc EV0, B3.alloc EV0, B4.alloc EV0, B5.alloc EV0, B6.alloc EV0, B7.alloc EV0, B8.alloc B8.size EV0⟩, h0, _, h2, p0, q0, p1, q1, p2, q2, rfl, Z0.alloc EV0, G0, N0_0, N0_1, N0_2, S6.new w' (.bool false) (.slice none 0 0) (.slice none 0 0) (.bool false) (.slice none 0 0) (.slice none 0 0), B8.size, Nat.ne_of_lt B0.lt, Nat.ne_of_lt B1.lt, Nat.ne_of_lt B2.lt, Nat.ne_of_lt Z0.lt, Z2.alloc EV0, G2, N2_0, N2_1, N2_2, M0_2, Nat.ne_of_gt Z2.lt, C0.alloc EV0, D0.alloc EV0, C1.alloc EV0, D1.alloc EV0, C2.alloc EV0, D2.alloc EV0⟩
            exact AllReadyH.nil
          · exact hI.2.elim
      · rcases t2 with _ | _
        · rcases c with _ | _ | _ | _ | c
          · obtain ⟨⟨B0, B1, B2, B3, B4, B5, B6, B7, B8⟩, h0, h1, rfl, Z0, G0, N0_0, N0_1, N0_2, Z1, G1, N1_0, N1_1, N1_2, M0_1⟩ := hI
            change wpAnyH _ _ _ _ _ (6 + 1) #[true, true, false, true, false, true, true, false, true, true, false, false, false, false] _ _
            try simp only [Act.put, List.getElem_toArray, List.getElem_cons_succ, List.getElem_cons_zero, List.setIfInBounds_toArray, List.set_cons_zero, List.set_cons_succ]
            refine wpAnyH_ready (rs := [2, 10]) (by kernel_rfl) (by simp) ?_
            refine AllReadyH.cons rfl (fun K hK => ?_) ?_
            · go_simp
              go_at_call 19
              with_reducible refine (iadd_e _ _ _ _ p q p' q' S1 S2 _ HS1.out HS2.out B3 B4 B5 B6 HP.out.1 HP.out.2 sp sq sp' sq').mono ?_
              rintro e x9 ⟨p0, q0, rfl, C0, D0, b9⟩
              try dsimp only
              refine hK.out _ _ ?_ (fun hHeld => ?_)
              · (try dsimp only); exact ⟨(B0.below b9 B0.lt).cell0, (B0.below b9 B0.lt).cell1, (B0.below b9 B0.lt).cell2, (B0.below b9 B0.lt).cell3, (B0.below b9 B0.lt).cell4, (B0.below b9 B0.lt).cell5, (B1.below b9 B1.lt).cell0, (B1.below b9 B1.lt).cell1, (B1.below b9 B1.lt).cell2, (B1.below b9 B1.lt).cell3, (B1.below b9 B1.lt).cell4, (B1.below b9 B1.lt).cell5, (B2.below b9 B2.lt).cell0, (B2.below b9 B2.lt).cell1, (B2.below b9 B2.lt).cell2⟩
              · exact ih (true, true, false, 1) (by decide) _ _ ⟨⟨B0.below b9 B0.lt, B1.below b9 B1.lt, B2.below b9 B2.lt, B3.below b9, B4.below b9, B5.below b9, B6.below b9, B7.below b9, below_then B8 (Nat.le_refl _) b9⟩, h0, h1, p0, q0, rfl, Z0.below b9 Z0.lt, G0, N0_0, N0_1, N0_2, Z1.below b9 Z1.lt, G1, N1_0, N1_1, N1_2, M0_1, C0, D0⟩
            refine AllReadyH.cons rfl (fun K hK => ?_) ?_
            · go_simp
              refine hK.out _ _ ?_ (fun hHeld => ?_)
              · (try dsimp only); exact ⟨(B0.alloc EV0).cell0, (B0.alloc EV0).cell1, (B0.alloc EV0).cell2, (B0.alloc EV0).cell3, (B0.alloc EV0).cell4, (B0.alloc EV0).cell5, (B1.alloc EV0).cell0, (B1.alloc EV0).cell1, (B1.alloc EV0).cell2, (B1.alloc EV0).cell3, (B1.alloc EV0).cell4, (B1.alloc EV0).cell5, (B2.alloc EV0).cell0, (B2.alloc EV0).cell1, (B2.alloc EV0).cell2⟩
              · exact ih (true, true, true, 0) (by decide) _ _ ⟨⟨B0.alloc EV0, B1.alloc EV0, B2.alloc EV0, B3.alloc EV0, B4.alloc EV0, B5.alloc EV0, B6.alloc EV0, B7.alloc EV0, B8.alloc B8.size EV0⟩, h0, h1, _, rfl, Z0.alloc EV0, G0, N0_0, N0_1, N0_2, Z1.alloc EV0, G1, N1_0, N1_1, N1_2, M0_1, S6.new w' (.bool false) (.slice none 0 0) (.slice none 0 0) (.bool false) (.slice none 0 0) (.slice none 0 0), B8.size, Nat.ne_of_lt B0.lt, Nat.ne_of_lt B1.lt, Nat.ne_of_lt B2.lt, Nat.ne_of_lt Z0.lt, Nat.ne_of_lt Z1.lt⟩
            exact AllReadyH.nil
          · obtain ⟨⟨B0, B1, B2, B3, B4, B5, B6, B7, B8⟩, h0, h1, p0, q0, rfl, Z0, G0, N0_0, N0_1, N0_2, Z1, G1, N1_0, N1_1, N1_2, M0_1, C0, D0⟩ := hI
            change wpAnyH _ _ _ _ _ (5 + 1) #[true, true, true, true, false, true, true, false, true, true, false, false, false, false] _ _
            try simp only [Act.put, List.getElem_toArray, List.getElem_cons_succ, List.getElem_cons_zero, List.setIfInBounds_toArray, List.set_cons_zero, List.set_cons_succ]
            refine wpAnyH_ready (rs := [4, 10]) (by kernel_rfl) (by simp) ?_
            refine AllReadyH.cons rfl (fun K hK => ?_) ?_
            · go_simp
              go_at_call 20
              with_reducible refine (ineg_e _ _ p q N1 N2 _ HN1.out HN2.out B3 B4 HP.out.1 sp sq).mono ?_
              rintro e x9 ⟨p1, q1, rfl, C1, D1, b9⟩
              try dsimp only
              refine hK.out _ _ ?_ (fun hHeld => ?_)
              · (try dsimp only); exact ⟨(B0.below b9 B0.lt).cell0, (B0.below b9 B0.lt).cell1, (B0.below b9 B0.lt).cell2, (B0.below b9 B0.lt).cell3, (B0.below b9 B0.lt).cell4, (B0.below b9 B0.lt).cell5, (B1.below b9 B1.lt).cell0, (B1.below b9 B1.lt).cell1, (B1.below b9 B1.lt).cell2, (B1.below b9 B1.lt).cell3, (B1.below b9 B1.lt).cell4, (B1.below b9 B1.lt).cell5, (B2.below b9 B2.lt).cell0, (B2.below b9 B2.lt).cell1, (B2.below b9 B2.lt).cell2⟩
              · exact ih (true, true, false, 2) (by decide) _ _ ⟨⟨B0.below b9 B0.lt, B1.below b9 B1.lt, B2.below b9 B2.lt, B3.below b9, B4.below b9, B5.below b9, B6.below b9, B7.below b9, below_then B8 (Nat.le_refl _) b9⟩, h0, h1, p0, q0, p1, q1, rfl, Z0.below b9 Z0.lt, G0, N0_0, N0_1, N0_2, Z1.below b9 Z1.lt, G1, N1_0, N1_1, N1_2, M0_1, C0.below b9, D0.below b9, C1, D1⟩
            refine AllReadyH.cons rfl (fun K hK => ?_) ?_
            · go_simp
              refine hK.out _ _ ?_ (fun hHeld => ?_)
              · (try dsimp only); exact ⟨(B0.alloc EV0).cell0, (B0.alloc EV0).cell1, (B0.alloc EV0).cell2, (B0.alloc EV0).cell3, (B0.alloc EV0).cell4, (B0.alloc EV0).cell5, (B1.alloc EV0).cell0, (B1.alloc EV0).cell1, (B1.alloc EV0).cell2, (B1.alloc EV0).cell3, (B1.alloc EV0).cell4, (B1.alloc EV0).cell5, (B2.alloc EV0).cell0, (B2.alloc EV0).cell1, (B2.alloc EV0).cell2⟩
              · exact ih (true, true, true, 1) (by decide) _ _ ⟨⟨B0.alloc EV0, B1.alloc EV0, B2.alloc EV0, B3.alloc EV0, B4.alloc EV0, B5.alloc EV0, B6.alloc EV0, B7.alloc EV0, B8.alloc B8.size EV0⟩, h0, h1, _, p0, q0, rfl, Z0.alloc EV0, G0, N0_0, N0_1, N0_2, Z1.alloc EV0, G1, N1_0, N1_1, N1_2, M0_1, S6.new w' (.bool false) (.slice none 0 0) (.slice none 0 0) (.bool false) (.slice none 0 0) (.slice none 0 0), B8.size, Nat.ne_of_lt B0.lt, Nat.ne_of_lt B1.lt, Nat.ne_of_lt B2.lt, Nat.ne_of_lt Z0.lt, Nat.ne_of_lt Z1.lt, C0.alloc EV0, D0.alloc EV0⟩
            exact AllReadyH.nil
          · obtain ⟨⟨B0, B1, B2, B3, B4, B5, B6, B7, B8⟩, h0, h1, p0, q0, p1, q1, rfl, Z0, G0, N0_0, N0_1, N0_2, Z1, G1, N1_0, N1_1, N1_2, M0_1, C0, D0, C1, D1⟩ := hI
            change wpAnyH _ _ _ _ _ (4 + 1) #[true, true, true, true, true, true, true, false, true, true, false, false, false, false] _ _
            try simp only [Act.put, List.getElem_toArray, List.getElem_cons_succ, List.getElem_cons_zero, List.setIfInBounds_toArray, List.set_cons_zero, List.set_cons_succ]
            refine wpAnyH_ready (rs := [7, 10]) (by kernel_rfl) (by simp) ?_
            refine AllReadyH.cons rfl (fun K hK => ?_) ?_
            · go_simp
              go_at_call 21
              with_reducible refine (iscale_e _ _ _ p q z M1 M2 _ HM1.out HM2.out B3 B4 B7 lt1 HP.out.1 sp sq sz_).mono ?_
              rintro e x9 ⟨p2, q2, rfl, C2, D2, b9⟩
              try dsimp only
              refine hK.out _ _ ?_ (fun hHeld => ?_)
              · (try dsimp only); exact ⟨(B0.below b9 B0.lt).cell0, (B0.below b9 B0.lt).cell1, (B0.below b9 B0.lt).cell2, (B0.below b9 B0.lt).cell3, (B0.below b9 B0.lt).cell4, (B0.below b9 B0.lt).cell5, (B1.below b9 B1.lt).cell0, (B1.below b9 B1.lt).cell1, (B1.below b9 B1.lt).cell2, (B1.below b9 B1.lt).cell3, (B1.below b9 B1.lt).cell4, (B1.below b9 B1.lt).cell5, (B2.below b9 B2.lt).cell0, (B2.below b9 B2.lt).cell1, (B2.below b9 B2.lt).cell2⟩
              · exact ih (true, true, false, 3) (by decide) _ _ ⟨⟨B0.below b9 B0.lt, B1.below b9 B1.lt, B2.below b9 B2.lt, B3.below b9, B4.below b9, B5.below b9, B6.below b9, B7.below b9, below_then B8 (Nat.le_refl _) b9⟩, h0, h1, p0, q0, p1, q1, p2, q2, rfl, Z0.below b9 Z0.lt, G0, N0_0, N0_1, N0_2, Z1.below b9 Z1.lt, G1, N1_0, N1_1, N1_2, M0_1, C0.below b9, D0.below b9, C1.below b9, D1.below b9, C2, D2⟩
            refine AllReadyH.cons rfl (fun K hK => ?_) ?_
            · go_simp
              refine hK.out _ _ ?_ (fun hHeld => ?_)
              · (try dsimp only); exact ⟨(B0.alloc EV0).cell0, (B0.alloc EV0).cell1, (B0.alloc EV0).cell2, (B0.alloc EV0).cell3, (B0.alloc EV0).cell4, (B0.alloc EV0).cell5, (B1.alloc EV0).cell0, (B1.alloc EV0).cell1, (B1.alloc EV0).cell2, (B1.alloc EV0).cell3, (B1.alloc EV0).cell4, (B1.alloc EV0).cell5, (B2.alloc EV0).cell0, (B2.alloc EV0).cell1, (B2.alloc EV0).cell2⟩
              · exact ih (true, true, true, 2) (by decide) _ _ ⟨⟨B0.alloc EV0, B1.alloc EV0, B2.alloc EV0, B3.alloc EV0, B4.alloc EV0, B5.alloc EV0, B6.alloc EV0, B7.alloc EV0, B8.alloc B8.size EV0⟩, h0, h1, _, p0, q0, p1, q1, rfl, Z0.alloc EV0, G0, N0_0, N0_1, N0_2, Z1.alloc EV0, G1, N1_0, N1_1, N1_2, M0_1, S6.new w' (.bool false) (.slice none 0 0) (.slice none 0 0) (.bool false) (.slice none 0 0) (.slice none 0 0), B8.size, Nat.ne_of_lt B0.lt, Nat.ne_of_lt B1.lt, Nat.ne_of_lt B2.lt, Nat.ne_of_lt Z0.lt, Nat.ne_of_lt Z1.lt, C0.alloc EV0, D0.alloc EV0, C1.alloc EV0, D1.alloc EV0⟩
            exact AllReadyH.nil
          · obtain ⟨⟨B0, B1, B2, B3, B4, B5, B6, B7, B8⟩, h0, h1, p0, q0, p1, q1, p2, q2, rfl, Z0, G0, N0_0, N0_1, N0_2, Z1, G1, N1_0, N1_1, N1_2, M0_1, C0, D0, C1, D1, C2, D2⟩ := hI
            change wpAnyH _ _ _ _ _ (3 + 1) #[true, true, true, true, true, true, true, true, true, true, false, false, false, false] _ _
            try simp only [Act.put, List.getElem_toArray, List.getElem_cons_succ, List.getElem_cons_zero, List.setIfInBounds_toArray, List.set_cons_zero, List.set_cons_succ]
            refine wpAnyH_ready (rs := [10]) (by kernel_rfl) (by simp) ?_
            refine AllReadyH.cons rfl (fun K hK => ?_) ?_
            · go_simp
              refine hK.out _ _ ?_ (fun hHeld => ?_)
              · (try dsimp only); exact ⟨(B0.alloc EV0).cell0, (B0.alloc EV0).cell1, (B0.alloc EV0).cell2, (B0.alloc EV0).cell3, (B0.alloc EV0).cell4, (B0.alloc EV0).cell5, (B1.alloc EV0).cell0, (B1.alloc EV0).cell1, (B1.alloc EV0).cell2, (B1.alloc EV0).cell3, (B1.alloc EV0).cell4, (B1.alloc EV0).cell5, (B2.alloc EV0).cell0, (B2.alloc EV0).cell1, (B2.alloc EV0).cell2⟩
              · exact ih (true, true, true, 3) (by decide) _ _ ⟨⟨B0.alloc EV0, B1.alloc EV0, B2.alloc EV0, B3.alloc EV0, B4.alloc EV0, B5.alloc EV0, B6.alloc EV0, B7.alloc EV0, B8.alloc B8.size EV0⟩, h0, h1, _, p0, q0, p1, q1, p2, q2, rfl, Z0.alloc EV0, G0, N0_0, N0_1, N0_2, Z1.alloc EV0, G1, N1_0, N1_1, N1_2, M0_1, S6.new w' (.bool false) (.slice none 0 0) (.slice none 0 0) (.bool false) (.slice none 0 0) (.slice none 0 0), B8.size, Nat.ne_of_lt B0.lt, Nat.ne_of_lt B1.lt, Nat.ne_of_lt B2.lt, Nat.ne_of_lt Z0.lt, Nat.ne_of_lt Z1.lt, C0.alloc EV0, D0.alloc EV0, C1.alloc EV0, D1.alloc EV0, C2.alloc EV0, D2.alloc EV0⟩
            exact AllReadyH.nil
          · exact hI.2.elim
        · rcases c with _ | _ | _ | _ | c
          · obtain ⟨⟨B0, B1, B2, B3, B4, B5, B6, B7, B8⟩, h0, h1, h2, rfl, Z0, G0, N0_0, N0_1, N0_2, Z1, G1, N1_0, N1_1, N1_2, M0_1, Z2, G2, N2_0, N2_1, N2_2, M0_2, M1_2⟩ := hI
            change wpAnyH _ _ _ _ _ (5 + 1) #[true, true, false, true, false, true, true, false, true, true, true, false, false, false] _ _
            try simp only [Act.put, List.getElem_toArray, List.getElem_cons_succ, List.getElem_cons_zero, List.setIfInBounds_toArray, List.set_cons_zero, List.set_cons_succ]
            refine wpAnyH_ready (rs := [2]) (by kernel_rfl) (by simp) ?_
            refine AllReadyH.cons rfl (fun K hK => ?_) ?_
            · go_simp
              go_at_call 19
              with_reducible refine (iadd_e _ _ _ _ p q p' q' S1 S2 _ HS1.out HS2.out B3 B4 B5 B6 HP.out.1 HP.out.2 sp sq sp' sq').mono ?_
              rintro e x9 ⟨p0, q0, rfl, C0, D0, b9⟩
              try dsimp only
              refine hK.out _ _ ?_ (fun hHeld => ?_)
              · (try dsimp only); exact ⟨(B0.below b9 B0.lt).cell0, (B0.below b9 B0.lt).cell1, (B0.below b9 B0.lt).cell2, (B0.below b9 B0.lt).cell3, (B0.below b9 B0.lt).cell4, (B0.below b9 B0.lt).cell5, (B1.below b9 B1.lt).cell0, (B1.below b9 B1.lt).cell1, (B1.below b9 B1.lt).cell2, (B1.below b9 B1.lt).cell3, (B1.below b9 B1.lt).cell4, (B1.below b9 B1.lt).cell5, (B2.below b9 B2.lt).cell0, (B2.below b9 B2.lt).cell1, (B2.below b9 B2.lt).cell2⟩
              · exact ih (true, true, true, 1) (by decide) _ _ ⟨⟨B0.below b9 B0.lt, B1.below b9 B1.lt, B2.below b9 B2.lt, B3.below b9, B4.below b9, B5.below b9, B6.below b9, B7.below b9, below_then B8 (Nat.le_refl _) b9⟩, h0, h1, h2, p0, q0, rfl, Z0.below b9 Z0.lt, G0, N0_0, N0_1, N0_2, Z1.below b9 Z1.lt, G1, N1_0, N1_1, N1_2, M0_1, Z2.below b9 Z2.lt, G2, N2_0, N2_1, N2_2, M0_2, M1_2, C0, D0⟩
            exact AllReadyH.nil
          · obtain ⟨⟨B0, B1, B2, B3, B4, B5, B6, B7, B8⟩, h0, h1, h2, p0, q0, rfl, Z0, G0, N0_0, N0_1, N0_2, Z1, G1, N1_0, N1_1, N1_2, M0_1, Z2, G2, N2_0, N2_1, N2_2, M0_2, M1_2, C0, D0⟩ := hI
            change wpAnyH _ _ _ _ _ (4 + 1) #[true, true, true, true, false, true, true, false, true, true, true, false, false, false] _ _
            try simp only [Act.put, List.getElem_toArray, List.getElem_cons_succ, List.getElem_cons_zero, List.setIfInBounds_toArray, List.set_cons_zero, List.set_cons_succ]
            refine wpAnyH_ready (rs := [4]) (by kernel_rfl) (by simp) ?_
            refine AllReadyH.cons rfl (fun K hK => ?_) ?_
            · go_simp
              go_at_call 20
              with_reducible refine (ineg_e _ _ p q N1 N2 _ HN1.out HN2.out B3 B4 HP.out.1 sp sq).mono ?_
              rintro e x9 ⟨p1, q1, rfl, C1, D1, b9⟩
              try dsimp only
              refine hK.out _ _ ?_ (fun hHeld => ?_)
              · (try dsimp only); exact ⟨(B0.below b9 B0.lt).cell0, (B0.below b9 B0.lt).cell1, (B0.below b9 B0.lt).cell2, (B0.below b9 B0.lt).cell3, (B0.below b9 B0.lt).cell4, (B0.below b9 B0.lt).cell5, (B1.below b9 B1.lt).cell0, (B1.below b9 B1.lt).cell1, (B1.below b9 B1.lt).cell2, (B1.below b9 B1.lt).cell3, (B1.below b9 B1.lt).cell4, (B1.below b9 B1.lt).cell5, (B2.below b9 B2.lt).cell0, (B2.below b9 B2.lt).cell1, (B2.below b9 B2.lt).cell2⟩
              · exact ih (true, true, true, 2) (by decide) _ _ ⟨⟨B0.below b9 B0.lt, B1.below b9 B1.lt, B2.below b9 B2.lt, B3.below b9, B4.below b9, B5.below b9, B6.below b9, B7.below b9, below_then B8 (Nat.le_refl _) b9⟩, h0, h1, h2, p0, q0, p1, q1, rfl, Z0.below b9 Z0.lt, G0, N0_0, N0_1, N0_2, Z1.below b9 Z1.lt, G1, N1_0, N1_1, N1_2, M0_1, Z2.below b9 Z2.lt, G2, N2_0, N2_1, N2_2, M0_2, M1_2, C0.below b9, D0.below b9, C1, D1⟩
            exact AllReadyH.nil
          · obtain ⟨⟨B0, B1, B2, B3, B4, B5, B6, B7, B8⟩, h0, h1, h2, p0, q0, p1, q1, rfl, Z0, G0, N0_0, N0_1, N0_2, Z1, G1, N1_0, N1_1, N1_2, M0_1, Z2, G2, N2_0, N2_1, N2_2, M0_2, M1_2, C0, D0, C1, D1⟩ := hI
            change wpAnyH _ _ _ _ _ (3 + 1) #[true, true, true, true, true, true, true, false, true, true, true, false, false, false] _ _
            try simp only [Act.put, List.getElem_toArray, List.getElem_cons_succ, List.getElem_cons_zero, List.setIfInBounds_toArray, List.set_cons_zero, List.set_cons_succ]
            refine wpAnyH_ready (rs := [7]) (by kernel_rfl) (by simp) ?_
            refine AllReadyH.cons rfl (fun K hK => ?_) ?_
            · go_simp
              go_at_call 21
              with_reducible refine (iscale_e _ _ _ p q z M1 M2 _ HM1.out HM2.out B3 B4 B7 lt1 HP.out.1 sp sq sz_).mono ?_
              rintro e x9 ⟨p2, q2, rfl, C2, D2, b9⟩
              try dsimp only
              refine hK.out _ _ ?_ (fun hHeld => ?_)
              · (try dsimp only); exact ⟨(B0.below b9 B0.lt).cell0, (B0.below b9 B0.lt).cell1, (B0.below b9 B0.lt).cell2, (B0.below b9 B0.lt).cell3, (B0.below b9 B0.lt).cell4, (B0.below b9 B0.lt).cell5, (B1.below b9 B1.lt).cell0, (B1.below b9 B1.lt).cell1, (B1.below b9 B1.lt).cell2, (B1.below b9 B1.lt).cell3, (B1.below b9 B1.lt).cell4, (B1.below b9 B1.lt).cell5, (B2.below b9 B2.lt).cell0, (B2.below b9 B2.lt).cell1, (B2.below b9 B2.lt).cell2⟩
              · exact ih (true, true, true, 3) (by decide) _ _ ⟨⟨B0.below b9 B0.lt, B1.below b9 B1.lt, B2.below b9 B2.lt, B3.below b9, B4.below b9, B5.below b9, B6.below b9, B7.below b9, below_then B8 (Nat.le_refl _) b9⟩, h0, h1, h2, p0, q0, p1, q1, p2, q2, rfl, Z0.below b9 Z0.lt, G0, N0_0, N0_1, N0_2, Z1.below b9 Z1.lt, G1, N1_0, N1_1, N1_2, M0_1, Z2.below b9 Z2.lt, G2, N2_0, N2_1, N2_2, M0_2, M1_2, C0.below b9, D0.below b9, C1.below b9, D1.below b9, C2, D2⟩
            exact AllReadyH.nil
          · obtain ⟨⟨B0, B1, B2, B3, B4, B5, B6, B7, B8⟩, h0, h1, h2, p0, q0, p1, q1, p2, q2, rfl, Z0, G0, N0_0, N0_1, N0_2, Z1, G1, N1_0, N1_1, N1_2, M0_1, Z2, G2, N2_0, N2_1, N2_2, M0_2, M1_2, C0, D0, C1, D1, C2, D2⟩ := hI
            change wpAnyH _ _ _ _ _ (2 + 1) _ _ _
            try simp only [Act.put, List.getElem_toArray, List.getElem_cons_succ, List.getElem_cons_zero, List.setIfInBounds_toArray, List.set_cons_zero, List.set_cons_succ]
            refine wpAnyH_ready (rs := [11]) (by kernel_rfl) (by simp) ?_
            refine AllReadyH.cons rfl (fun K hK => ?_) AllReadyH.nil
            have zc0_0 := Z0.cell0
            have zf0_0 := Z0.frozen 0
            have zc0_1 := Z0.cell1
            have zf0_1 := Z0.frozen 1
            have zc0_2 := Z0.cell2
            have zf0_2 := Z0.frozen 2
            have zc0_3 := Z0.cell3
            have zf0_3 := Z0.frozen 3
            have zc0_4 := Z0.cell4
            have zf0_4 := Z0.frozen 4
            have zc0_5 := Z0.cell5
            have zf0_5 := Z0.frozen 5
            go_simp
            have B0_0 := B0.past6 (g' := h0) (u0 := .bool p0.s) (u1 := .slice p0.A p0.n p0.c) (u2 := .slice p0.B p0.m p0.d) (u3 := .bool q0.s) (u4 := .slice q0.A q0.n q0.c) (u5 := .slice q0.B q0.m q0.d) N0_0
            have B1_0 := B1.past6 (g' := h0) (u0 := .bool p0.s) (u1 := .slice p0.A p0.n p0.c) (u2 := .slice p0.B p0.m p0.d) (u3 := .bool q0.s) (u4 := .slice q0.A q0.n q0.c) (u5 := .slice q0.B q0.m q0.d) N0_1
            have B2_0 := B2.past6 (g' := h0) (u0 := .bool p0.s) (u1 := .slice p0.A p0.n p0.c) (u2 := .slice p0.B p0.m p0.d) (u3 := .bool q0.s) (u4 := .slice q0.A q0.n q0.c) (u5 := .slice q0.B q0.m q0.d) N0_2
            have B3_0 := B3.stor6 Z0 (.bool p0.s) (.slice p0.A p0.n p0.c) (.slice p0.B p0.m p0.d) (.bool q0.s) (.slice q0.A q0.n q0.c) (.slice q0.B q0.m q0.d)
            have B4_0 := B4.stor6 Z0 (.bool p0.s) (.slice p0.A p0.n p0.c) (.slice p0.B p0.m p0.d) (.bool q0.s) (.slice q0.A q0.n q0.c) (.slice q0.B q0.m q0.d)
            have B5_0 := B5.stor6 Z0 (.bool p0.s) (.slice p0.A p0.n p0.c) (.slice p0.B p0.m p0.d) (.bool q0.s) (.slice q0.A q0.n q0.c) (.slice q0.B q0.m q0.d)
            have B6_0 := B6.stor6 Z0 (.bool p0.s) (.slice p0.A p0.n p0.c) (.slice p0.B p0.m p0.d) (.bool q0.s) (.slice q0.A q0.n q0.c) (.slice q0.B q0.m q0.d)
            have B7_0 := B7.stor6 Z0 (.bool p0.s) (.slice p0.A p0.n p0.c) (.slice p0.B p0.m p0.d) (.bool q0.s) (.slice q0.A q0.n q0.c) (.slice q0.B q0.m q0.d)
            have C0_0 := C0.stor6 Z0 (.bool p0.s) (.slice p0.A p0.n p0.c) (.slice p0.B p0.m p0.d) (.bool q0.s) (.slice q0.A q0.n q0.c) (.slice q0.B q0.m q0.d)
            have D0_0 := D0.stor6 Z0 (.bool p0.s) (.slice p0.A p0.n p0.c) (.slice p0.B p0.m p0.d) (.bool q0.s) (.slice q0.A q0.n q0.c) (.slice q0.B q0.m q0.d)
            have C1_0 := C1.stor6 Z0 (.bool p0.s) (.slice p0.A p0.n p0.c) (.slice p0.B p0.m p0.d) (.bool q0.s) (.slice q0.A q0.n q0.c) (.slice q0.B q0.m q0.d)
            have D1_0 := D1.stor6 Z0 (.bool p0.s) (.slice p0.A p0.n p0.c) (.slice p0.B p0.m p0.d) (.bool q0.s) (.slice q0.A q0.n q0.c) (.slice q0.B q0.m q0.d)
            have C2_0 := C2.stor6 Z0 (.bool p0.s) (.slice p0.A p0.n p0.c) (.slice p0.B p0.m p0.d) (.bool q0.s) (.slice q0.A q0.n q0.c) (.slice q0.B q0.m q0.d)
            have D2_0 := D2.stor6 Z0 (.bool p0.s) (.slice p0.A p0.n p0.c) (.slice p0.B p0.m p0.d) (.bool q0.s) (.slice q0.A q0.n q0.c) (.slice q0.B q0.m q0.d)
            have Z1_0 := Z1.past (g' := h0) (u0 := .bool p0.s) (u1 := .slice p0.A p0.n p0.c) (u2 := .slice p0.B p0.m p0.d) (u3 := .bool q0.s) (u4 := .slice q0.A q0.n q0.c) (u5 := .slice q0.B q0.m q0.d) (Ne.symm M0_1)
            have Z2_0 := Z2.past (g' := h0) (u0 := .bool p0.s) (u1 := .slice p0.A p0.n p0.c) (u2 := .slice p0.B p0.m p0.d) (u3 := .bool q0.s) (u4 := .slice q0.A q0.n q0.c) (u5 := .slice q0.B q0.m q0.d) (Ne.symm M0_2)
            have Z0_0 := Z0.stor (u0 := .bool p0.s) (u1 := .slice p0.A p0.n p0.c) (u2 := .slice p0.B p0.m p0.d) (u3 := .bool q0.s) (u4 := .slice q0.A q0.n q0.c) (u5 := .slice q0.B q0.m q0.d)
            have B8_0 := below_six (u0 := .bool p0.s) (u1 := .slice p0.A p0.n p0.c) (u2 := .slice p0.B p0.m p0.d) (u3 := .bool q0.s) (u4 := .slice q0.A q0.n q0.c) (u5 := .slice q0.B q0.m q0.d) B8 G0
            try dsimp only
            refine hK.out _ _ ?_ (fun hHeld => ?_)
            · (try dsimp only); exact ⟨B0_0.cell0, B0_0.cell1, B0_0.cell2, B0_0.cell3, B0_0.cell4, B0_0.cell5, B1_0.cell0, B1_0.cell1, B1_0.cell2, B1_0.cell3, B1_0.cell4, B1_0.cell5, B2_0.cell0, B2_0.cell1, B2_0.cell2⟩
            clear hK K
            change wpAnyH _ _ _ _ _ (1 + 1) _ _ _
            try simp only [Act.put, List.getElem_toArray, List.getElem_cons_succ, List.getElem_cons_zero, List.setIfInBounds_toArray, List.set_cons_zero, List.set_cons_succ]
            refine wpAnyH_ready (rs := [12]) (by kernel_rfl) (by simp) ?_
            refine AllReadyH.cons rfl (fun K hK => ?_) AllReadyH.nil
            have zc1_0 := Z1_0.cell0
            have zf1_0 := Z1_0.frozen 0
            have zc1_1 := Z1_0.cell1
            have zf1_1 := Z1_0.frozen 1
            have zc1_2 := Z1_0.cell2
            have zf1_2 := Z1_0.frozen 2
            have zc1_3 := Z1_0.cell3
            have zf1_3 := Z1_0.frozen 3
            have zc1_4 := Z1_0.cell4
            have zf1_4 := Z1_0.frozen 4
            have zc1_5 := Z1_0.cell5
            have zf1_5 := Z1_0.frozen 5
            go_simp
            have B0_0_1 := B0_0.past6 (g' := h1) (u0 := .bool p1.s) (u1 := .slice p1.A p1.n p1.c) (u2 := .slice p1.B p1.m p1.d) (u3 := .bool q1.s) (u4 := .slice q1.A q1.n q1.c) (u5 := .slice q1.B q1.m q1.d) N1_0
            have B1_0_1 := B1_0.past6 (g' := h1) (u0 := .bool p1.s) (u1 := .slice p1.A p1.n p1.c) (u2 := .slice p1.B p1.m p1.d) (u3 := .bool q1.s) (u4 := .slice q1.A q1.n q1.c) (u5 := .slice q1.B q1.m q1.d) N1_1
            have B2_0_1 := B2_0.past6 (g' := h1) (u0 := .bool p1.s) (u1 := .slice p1.A p1.n p1.c) (u2 := .slice p1.B p1.m p1.d) (u3 := .bool q1.s) (u4 := .slice q1.A q1.n q1.c) (u5 := .slice q1.B q1.m q1.d) N1_2
            have B3_0_1 := B3_0.stor6 Z1_0 (.bool p1.s) (.slice p1.A p1.n p1.c) (.slice p1.B p1.m p1.d) (.bool q1.s) (.slice q1.A q1.n q1.c) (.slice q1.B q1.m q1.d)
            have B4_0_1 := B4_0.stor6 Z1_0 (.bool p1.s) (.slice p1.A p1.n p1.c) (.slice p1.B p1.m p1.d) (.bool q1.s) (.slice q1.A q1.n q1.c) (.slice q1.B q1.m q1.d)
            have B5_0_1 := B5_0.stor6 Z1_0 (.bool p1.s) (.slice p1.A p1.n p1.c) (.slice p1.B p1.m p1.d) (.bool q1.s) (.slice q1.A q1.n q1.c) (.slice q1.B q1.m q1.d)
            have B6_0_1 := B6_0.stor6 Z1_0 (.bool p1.s) (.slice p1.A p1.n p1.c) (.slice p1.B p1.m p1.d) (.bool q1.s) (.slice q1.A q1.n q1.c) (.slice q1.B q1.m q1.d)
            have B7_0_1 := B7_0.stor6 Z1_0 (.bool p1.s) (.slice p1.A p1.n p1.c) (.slice p1.B p1.m p1.d) (.bool q1.s) (.slice q1.A q1.n q1.c) (.slice q1.B q1.m q1.d)
            have C0_0_1 := C0_0.stor6 Z1_0 (.bool p1.s) (.slice p1.A p1.n p1.c) (.slice p1.B p1.m p1.d) (.bool q1.s) (.slice q1.A q1.n q1.c) (.slice q1.B q1.m q1.d)
            have D0_0_1 := D0_0.stor6 Z1_0 (.bool p1.s) (.slice p1.A p1.n p1.c) (.slice p1.B p1.m p1.d) (.bool q1.s) (.slice q1.A q1.n q1.c) (.slice q1.B q1.m q1.d)
            have C1_0_1 := C1_0.stor6 Z1_0 (.bool p1.s) (.slice p1.A p1.n p1.c) (.slice p1.B p1.m p1.d) (.bool q1.s) (.slice q1.A q1.n q1.c) (.slice q1.B q1.m q1.d)
            have D1_0_1 := D1_0.stor6 Z1_0 (.bool p1.s) (.slice p1.A p1.n p1.c) (.slice p1.B p1.m p1.d) (.bool q1.s) (.slice q1.A q1.n q1.c) (.slice q1.B q1.m q1.d)
            have C2_0_1 := C2_0.stor6 Z1_0 (.bool p1.s) (.slice p1.A p1.n p1.c) (.slice p1.B p1.m p1.d) (.bool q1.s) (.slice q1.A q1.n q1.c) (.slice q1.B q1.m q1.d)
            have D2_0_1 := D2_0.stor6 Z1_0 (.bool p1.s) (.slice p1.A p1.n p1.c) (.slice p1.B p1.m p1.d) (.bool q1.s) (.slice q1.A q1.n q1.c) (.slice q1.B q1.m q1.d)
            have Z0_0_1 := Z0_0.past (g' := h1) (u0 := .bool p1.s) (u1 := .slice p1.A p1.n p1.c) (u2 := .slice p1.B p1.m p1.d) (u3 := .bool q1.s) (u4 := .slice q1.A q1.n q1.c) (u5 := .slice q1.B q1.m q1.d) M0_1
            have Z2_0_1 := Z2_0.past (g' := h1) (u0 := .bool p1.s) (u1 := .slice p1.A p1.n p1.c) (u2 := .slice p1.B p1.m p1.d) (u3 := .bool q1.s) (u4 := .slice q1.A q1.n q1.c) (u5 := .slice q1.B q1.m q1.d) (Ne.symm M1_2)
            have Z1_0_1 := Z1_0.stor (u0 := .bool p1.s) (u1 := .slice p1.A p1.n p1.c) (u2 := .slice p1.B p1.m p1.d) (u3 := .bool q1.s) (u4 := .slice q1.A q1.n q1.c) (u5 := .slice q1.B q1.m q1.d)
            have B8_0_1 := below_six (u0 := .bool p1.s) (u1 := .slice p1.A p1.n p1.c) (u2 := .slice p1.B p1.m p1.d) (u3 := .bool q1.s) (u4 := .slice q1.A q1.n q1.c) (u5 := .slice q1.B q1.m q1.d) B8_0 G1
            try dsimp only
            refine hK.out _ _ ?_ (fun hHeld => ?_)
            · (try dsimp only); exact ⟨B0_0_1.cell0, B0_0_1.cell1, B0_0_1.cell2, B0_0_1.cell3, B0_0_1.cell4, B0_0_1.cell5, B1_0_1.cell0, B1_0_1.cell1, B1_0_1.cell2, B1_0_1.cell3, B1_0_1.cell4, B1_0_1.cell5, B2_0_1.cell0, B2_0_1.cell1, B2_0_1.cell2⟩
            clear hK K
            change wpAnyH _ _ _ _ _ (0 + 1) _ _ _
            try simp only [Act.put, List.getElem_toArray, List.getElem_cons_succ, List.getElem_cons_zero, List.setIfInBounds_toArray, List.set_cons_zero, List.set_cons_succ]
            refine wpAnyH_ready (rs := [13]) (by kernel_rfl) (by simp) ?_
            refine AllReadyH.cons rfl (fun K hK => ?_) AllReadyH.nil
            have zc2_0 := Z2_0_1.cell0
            have zf2_0 := Z2_0_1.frozen 0
            have zc2_1 := Z2_0_1.cell1
            have zf2_1 := Z2_0_1.frozen 1
            have zc2_2 := Z2_0_1.cell2
            have zf2_2 := Z2_0_1.frozen 2
            have zc2_3 := Z2_0_1.cell3
            have zf2_3 := Z2_0_1.frozen 3
            have zc2_4 := Z2_0_1.cell4
            have zf2_4 := Z2_0_1.frozen 4
            have zc2_5 := Z2_0_1.cell5
            have zf2_5 := Z2_0_1.frozen 5
            go_simp
            have B0_0_1_2 := B0_0_1.past6 (g' := h2) (u0 := .bool p2.s) (u1 := .slice p2.A p2.n p2.c) (u2 := .slice p2.B p2.m p2.d) (u3 := .bool q2.s) (u4 := .slice q2.A q2.n q2.c) (u5 := .slice q2.B q2.m q2.d) N2_0
            have B1_0_1_2 := B1_0_1.past6 (g' := h2) (u0 := .bool p2.s) (u1 := .slice p2.A p2.n p2.c) (u2 := .slice p2.B p2.m p2.d) (u3 := .bool q2.s) (u4 := .slice q2.A q2.n q2.c) (u5 := .slice q2.B q2.m q2.d) N2_1
            have B2_0_1_2 := B2_0_1.past6 (g' := h2) (u0 := .bool p2.s) (u1 := .slice p2.A p2.n p2.c) (u2 := .slice p2.B p2.m p2.d) (u3 := .bool q2.s) (u4 := .slice q2.A q2.n q2.c) (u5 := .slice q2.B q2.m q2.d) N2_2
            have B3_0_1_2 := B3_0_1.stor6 Z2_0_1 (.bool p2.s) (.slice p2.A p2.n p2.c) (.slice p2.B p2.m p2.d) (.bool q2.s) (.slice q2.A q2.n q2.c) (.slice q2.B q2.m q2.d)
            have B4_0_1_2 := B4_0_1.stor6 Z2_0_1 (.bool p2.s) (.slice p2.A p2.n p2.c) (.slice p2.B p2.m p2.d) (.bool q2.s) (.slice q2.A q2.n q2.c) (.slice q2.B q2.m q2.d)
            have B5_0_1_2 := B5_0_1.stor6 Z2_0_1 (.bool p2.s) (.slice p2.A p2.n p2.c) (.slice p2.B p2.m p2.d) (.bool q2.s) (.slice q2.A q2.n q2.c) (.slice q2.B q2.m q2.d)
            have B6_0_1_2 := B6_0_1.stor6 Z2_0_1 (.bool p2.s) (.slice p2.A p2.n p2.c) (.slice p2.B p2.m p2.d) (.bool q2.s) (.slice q2.A q2.n q2.c) (.slice q2.B q2.m q2.d)
            have B7_0_1_2 := B7_0_1.stor6 Z2_0_1 (.bool p2.s) (.slice p2.A p2.n p2.c) (.slice p2.B p2.m p2.d) (.bool q2.s) (.slice q2.A q2.n q2.c) (.slice q2.B q2.m q2.d)
            have C0_0_1_2 := C0_0_1.stor6 Z2_0_1 (.bool p2.s) (.slice p2.A p2.n p2.c) (.slice p2.B p2.m p2.d) (.bool q2.s) (.slice q2.A q2.n q2.c) (.slice q2.B q2.m q2.d)
            have D0_0_1_2 := D0_0_1.stor6 Z2_0_1 (.bool p2.s) (.slice p2.A p2.n p2.c) (.slice p2.B p2.m p2.d) (.bool q2.s) (.slice q2.A q2.n q2.c) (.slice q2.B q2.m q2.d)
            have C1_0_1_2 := C1_0_1.stor6 Z2_0_1 (.bool p2.s) (.slice p2.A p2.n p2.c) (.slice p2.B p2.m p2.d) (.bool q2.s) (.slice q2.A q2.n q2.c) (.slice q2.B q2.m q2.d)
            have D1_0_1_2 := D1_0_1.stor6 Z2_0_1 (.bool p2.s) (.slice p2.A p2.n p2.c) (.slice p2.B p2.m p2.d) (.bool q2.s) (.slice q2.A q2.n q2.c) (.slice q2.B q2.m q2.d)
            have C2_0_1_2 := C2_0_1.stor6 Z2_0_1 (.bool p2.s) (.slice p2.A p2.n p2.c) (.slice p2.B p2.m p2.d) (.bool q2.s) (.slice q2.A q2.n q2.c) (.slice q2.B q2.m q2.d)
            have D2_0_1_2 := D2_0_1.stor6 Z2_0_1 (.bool p2.s) (.slice p2.A p2.n p2.c) (.slice p2.B p2.m p2.d) (.bool q2.s) (.slice q2.A q2.n q2.c) (.slice q2.B q2.m q2.d)
            have Z0_0_1_2 := Z0_0_1.past (g' := h2) (u0 := .bool p2.s) (u1 := .slice p2.A p2.n p2.c) (u2 := .slice p2.B p2.m p2.d) (u3 := .bool q2.s) (u4 := .slice q2.A q2.n q2.c) (u5 := .slice q2.B q2.m q2.d) M0_2
            have Z1_0_1_2 := Z1_0_1.past (g' := h2) (u0 := .bool p2.s) (u1 := .slice p2.A p2.n p2.c) (u2 := .slice p2.B p2.m p2.d) (u3 := .bool q2.s) (u4 := .slice q2.A q2.n q2.c) (u5 := .slice q2.B q2.m q2.d) M1_2
            have Z2_0_1_2 := Z2_0_1.stor (u0 := .bool p2.s) (u1 := .slice p2.A p2.n p2.c) (u2 := .slice p2.B p2.m p2.d) (u3 := .bool q2.s) (u4 := .slice q2.A q2.n q2.c) (u5 := .slice q2.B q2.m q2.d)
            have B8_0_1_2 := below_six (u0 := .bool p2.s) (u1 := .slice p2.A p2.n p2.c) (u2 := .slice p2.B p2.m p2.d) (u3 := .bool q2.s) (u4 := .slice q2.A q2.n q2.c) (u5 := .slice q2.B q2.m q2.d) B8_0_1 G2
            try dsimp only
            refine hK.out _ _ ?_ (fun hHeld => ?_)
            · (try dsimp only); exact ⟨B0_0_1_2.cell0, B0_0_1_2.cell1, B0_0_1_2.cell2, B0_0_1_2.cell3, B0_0_1_2.cell4, B0_0_1_2.cell5, B1_0_1_2.cell0, B1_0_1_2.cell1, B1_0_1_2.cell2, B1_0_1_2.cell3, B1_0_1_2.cell4, B1_0_1_2.cell5, B2_0_1_2.cell0, B2_0_1_2.cell1, B2_0_1_2.cell2⟩
            clear hK K
            try simp only [Act.put, List.getElem_toArray, List.getElem_cons_succ, List.getElem_cons_zero, List.setIfInBounds_toArray, List.set_cons_zero, List.set_cons_succ]
            refine wpAnyH_done (by kernel_rfl) ?_ _
            go_wp2_with fail
            go_meet
            exact ⟨_, h0, h1, h2, p0, q0, p1, q1, p2, q2, rfl, rfl, rfl, rfl, Z0_0_1_2, Z1_0_1_2, Z2_0_1_2, B0_0_1_2, B1_0_1_2, B2_0_1_2, B3_0_1_2, B4_0_1_2, B5_0_1_2, B6_0_1_2, B7_0_1_2, C0_0_1_2, D0_0_1_2, C1_0_1_2, D1_0_1_2, C2_0_1_2, D2_0_1_2, B8_0_1_2⟩
          · exact hI.2.elim
  case rest =>
    obtain ⟨Wqs, gqs, gqn, gqm, qsu, qsv, qnu, qnv, qmu, qmv, rfl, rfl, rfl, rfl, ygqs0, ygqn0, ygqm0, ba_9, bb_9, bc_9, ku_9, kv_9, kx_9, ky_9, kt_9, a1_9, a2_9, b1_9, b2_9, m1_9, m2_9, F9⟩ := hcut
    have ygqs : Sv Wqs gqs qsu qsv := ygqs0
    have ygqn : Sv Wqs gqn qnu qnv := ygqn0
    have ygqm : Sv Wqs gqm qmu qmv := ygqm0
    clear ygqs0 ygqn0 ygqm0
    have ba_u9 := ba_9.cell0
    have ba_v9 := ba_9.cell1
    have ba_w9 := ba_9.cell2
    have ba_x9 := ba_9.cell3
    have ba_y9 := ba_9.cell4
    have ba_z9 := ba_9.cell5
    have bb_u9 := bb_9.cell0
    have bb_v9 := bb_9.cell1
    have bb_w9 := bb_9.cell2
    have bb_x9 := bb_9.cell3
    have bb_y9 := bb_9.cell4
    have bb_z9 := bb_9.cell5
    have bc_u9 := bc_9.cell0
    have bc_v9 := bc_9.cell1
    have bc_w9 := bc_9.cell2
    have qs_u9 := ygqs.cell0
    have qs_v9 := ygqs.cell1
    have qs_w9 := ygqs.cell2
    have qs_x9 := ygqs.cell3
    have qs_y9 := ygqs.cell4
    have qs_z9 := ygqs.cell5
    have qn_u9 := ygqn.cell0
    have qn_v9 := ygqn.cell1
    have qn_w9 := ygqn.cell2
    have qn_x9 := ygqn.cell3
    have qn_y9 := ygqn.cell4
    have qn_z9 := ygqn.cell5
    have qm_u9 := ygqm.cell0
    have qm_v9 := ygqm.cell1
    have qm_w9 := ygqm.cell2
    have qm_x9 := ygqm.cell3
    have qm_y9 := ygqm.cell4
    have qm_z9 := ygqm.cell5
    go_wp2_with fail
    have ku_10 := ku_9.drew
    have kv_10 := kv_9.drew
    have kx_10 := kx_9.drew
    have ky_10 := ky_9.drew
    have kt_10 := kt_9.drew
    have a1_10 := a1_9.drew
    have a2_10 := a2_9.drew
    have b1_10 := b1_9.drew
    have b2_10 := b2_9.drew
    have m1_10 := m1_9.drew
    have m2_10 := m2_9.drew
    have ba_10 := ba_9.drew
    have bb_10 := bb_9.drew
    have bc_10 := bc_9.drew
    have qs_10 := ygqs.drew
    have qn_10 := ygqn.drew
    have qm_10 := ygqm.drew
    have F10 := F9.drew
    go_region_held3 (fun w' => w'.cell? ⟨w.heap.size, 0, none⟩ = some (.bool u.s) ∧ w'.cell? ⟨w.heap.size, 1, none⟩ = some (.slice u.A u.n u.c) ∧ w'.cell? ⟨w.heap.size, 2, none⟩ = some (.slice u.B u.m u.d) ∧ w'.cell? ⟨w.heap.size, 3, none⟩ = some (.bool v.s) ∧ w'.cell? ⟨w.heap.size, 4, none⟩ = some (.slice v.A v.n v.c) ∧ w'.cell? ⟨w.heap.size, 5, none⟩ = some (.slice v.B v.m v.d) ∧ w'.cell? ⟨w.heap.size + 1, 0, none⟩ = some (.bool x.s) ∧ w'.cell? ⟨w.heap.size + 1, 1, none⟩ = some (.slice x.A x.n x.c) ∧ w'.cell? ⟨w.heap.size + 1, 2, none⟩ = some (.slice x.B x.m x.d) ∧ w'.cell? ⟨w.heap.size + 1, 3, none⟩ = some (.bool y.s) ∧ w'.cell? ⟨w.heap.size + 1, 4, none⟩ = some (.slice y.A y.n y.c) ∧ w'.cell? ⟨w.heap.size + 1, 5, none⟩ = some (.slice y.B y.m y.d) ∧ w'.cell? ⟨w.heap.size + 2, 0, none⟩ = some (.bool t.s) ∧ w'.cell? ⟨w.heap.size + 2, 1, none⟩ = some (.slice t.A t.n t.c) ∧ w'.cell? ⟨w.heap.size + 2, 2, none⟩ = some (.slice t.B t.m t.d) ∧ w'.cell? ⟨gqs, 0, none⟩ = some (.bool qsu.s) ∧ w'.cell? ⟨gqs, 1, none⟩ = some (.slice qsu.A qsu.n qsu.c) ∧ w'.cell? ⟨gqs, 2, none⟩ = some (.slice qsu.B qsu.m qsu.d) ∧ w'.cell? ⟨gqs, 3, none⟩ = some (.bool qsv.s) ∧ w'.cell? ⟨gqs, 4, none⟩ = some (.slice qsv.A qsv.n qsv.c) ∧ w'.cell? ⟨gqs, 5, none⟩ = some (.slice qsv.B qsv.m qsv.d) ∧ w'.cell? ⟨gqn, 0, none⟩ = some (.bool qnu.s) ∧ w'.cell? ⟨gqn, 1, none⟩ = some (.slice qnu.A qnu.n qnu.c) ∧ w'.cell? ⟨gqn, 2, none⟩ = some (.slice qnu.B qnu.m qnu.d) ∧ w'.cell? ⟨gqn, 3, none⟩ = some (.bool qnv.s) ∧ w'.cell? ⟨gqn, 4, none⟩ = some (.slice qnv.A qnv.n qnv.c) ∧ w'.cell? ⟨gqn, 5, none⟩ = some (.slice qnv.B qnv.m qnv.d) ∧ w'.cell? ⟨gqm, 0, none⟩ = some (.bool qmu.s) ∧ w'.cell? ⟨gqm, 1, none⟩ = some (.slice qmu.A qmu.n qmu.c) ∧ w'.cell? ⟨gqm, 2, none⟩ = some (.slice qmu.B qmu.m qmu.d) ∧ w'.cell? ⟨gqm, 3, none⟩ = some (.bool qmv.s) ∧ w'.cell? ⟨gqm, 4, none⟩ = some (.slice qmv.A qmv.n qmv.c) ∧ w'.cell? ⟨gqm, 5, none⟩ = some (.slice qmv.B qmv.m qmv.d))
      (first
        | with_reducible exact ⟨ba_16.cell0, ba_16.cell1, ba_16.cell2, ba_16.cell3, ba_16.cell4, ba_16.cell5, bb_16.cell0, bb_16.cell1, bb_16.cell2, bb_16.cell3, bb_16.cell4, bb_16.cell5, bc_16.cell0, bc_16.cell1, bc_16.cell2, qs_16.cell0, qs_16.cell1, qs_16.cell2, qs_16.cell3, qs_16.cell4, qs_16.cell5, qn_16.cell0, qn_16.cell1, qn_16.cell2, qn_16.cell3, qn_16.cell4, qn_16.cell5, qm_16.cell0, qm_16.cell1, qm_16.cell2, qm_16.cell3, qm_16.cell4, qm_16.cell5⟩
        | with_reducible exact ⟨ba_15.cell0, ba_15.cell1, ba_15.cell2, ba_15.cell3, ba_15.cell4, ba_15.cell5, bb_15.cell0, bb_15.cell1, bb_15.cell2, bb_15.cell3, bb_15.cell4, bb_15.cell5, bc_15.cell0, bc_15.cell1, bc_15.cell2, qs_15.cell0, qs_15.cell1, qs_15.cell2, qs_15.cell3, qs_15.cell4, qs_15.cell5, qn_15.cell0, qn_15.cell1, qn_15.cell2, qn_15.cell3, qn_15.cell4, qn_15.cell5, qm_15.cell0, qm_15.cell1, qm_15.cell2, qm_15.cell3, qm_15.cell4, qm_15.cell5⟩
        | with_reducible exact ⟨ba_14.cell0, ba_14.cell1, ba_14.cell2, ba_14.cell3, ba_14.cell4, ba_14.cell5, bb_14.cell0, bb_14.cell1, bb_14.cell2, bb_14.cell3, bb_14.cell4, bb_14.cell5, bc_14.cell0, bc_14.cell1, bc_14.cell2, qs_14.cell0, qs_14.cell1, qs_14.cell2, qs_14.cell3, qs_14.cell4, qs_14.cell5, qn_14.cell0, qn_14.cell1, qn_14.cell2, qn_14.cell3, qn_14.cell4, qn_14.cell5, qm_14.cell0, qm_14.cell1, qm_14.cell2, qm_14.cell3, qm_14.cell4, qm_14.cell5⟩
        | with_reducible exact ⟨ba_13.cell0, ba_13.cell1, ba_13.cell2, ba_13.cell3, ba_13.cell4, ba_13.cell5, bb_13.cell0, bb_13.cell1, bb_13.cell2, bb_13.cell3, bb_13.cell4, bb_13.cell5, bc_13.cell0, bc_13.cell1, bc_13.cell2, qs_13.cell0, qs_13.cell1, qs_13.cell2, qs_13.cell3, qs_13.cell4, qs_13.cell5, qn_13.cell0, qn_13.cell1, qn_13.cell2, qn_13.cell3, qn_13.cell4, qn_13.cell5, qm_13.cell0, qm_13.cell1, qm_13.cell2, qm_13.cell3, qm_13.cell4, qm_13.cell5⟩
        | with_reducible exact ⟨ba_12.cell0, ba_12.cell1, ba_12.cell2, ba_12.cell3, ba_12.cell4, ba_12.cell5, bb_12.cell0, bb_12.cell1, bb_12.cell2, bb_12.cell3, bb_12.cell4, bb_12.cell5, bc_12.cell0, bc_12.cell1, bc_12.cell2, qs_12.cell0, qs_12.cell1, qs_12.cell2, qs_12.cell3, qs_12.cell4, qs_12.cell5, qn_12.cell0, qn_12.cell1, qn_12.cell2, qn_12.cell3, qn_12.cell4, qn_12.cell5, qm_12.cell0, qm_12.cell1, qm_12.cell2, qm_12.cell3, qm_12.cell4, qm_12.cell5⟩
        | with_reducible exact ⟨ba_11.cell0, ba_11.cell1, ba_11.cell2, ba_11.cell3, ba_11.cell4, ba_11.cell5, bb_11.cell0, bb_11.cell1, bb_11.cell2, bb_11.cell3, bb_11.cell4, bb_11.cell5, bc_11.cell0, bc_11.cell1, bc_11.cell2, qs_11.cell0, qs_11.cell1, qs_11.cell2, qs_11.cell3, qs_11.cell4, qs_11.cell5, qn_11.cell0, qn_11.cell1, qn_11.cell2, qn_11.cell3, qn_11.cell4, qn_11.cell5, qm_11.cell0, qm_11.cell1, qm_11.cell2, qm_11.cell3, qm_11.cell4, qm_11.cell5⟩
        | with_reducible exact ⟨ba_10.cell0, ba_10.cell1, ba_10.cell2, ba_10.cell3, ba_10.cell4, ba_10.cell5, bb_10.cell0, bb_10.cell1, bb_10.cell2, bb_10.cell3, bb_10.cell4, bb_10.cell5, bc_10.cell0, bc_10.cell1, bc_10.cell2, qs_10.cell0, qs_10.cell1, qs_10.cell2, qs_10.cell3, qs_10.cell4, qs_10.cell5, qn_10.cell0, qn_10.cell1, qn_10.cell2, qn_10.cell3, qn_10.cell4, qn_10.cell5, qm_10.cell0, qm_10.cell1, qm_10.cell2, qm_10.cell3, qm_10.cell4, qm_10.cell5⟩
        | fail)
      (first
        | (go_at_call 22; (with_reducible refine (radd_e _ _ _ _ p q p' q' S1 S2 _ HS1.out HS2.out ku_10.iu kv_10.iu kx_10.iu ky_10.iu la lc lx ly).mono ?_); rintro e w11 ⟨u11, v11, rfl, n1, n2, b11⟩; have ku_11 := ku_10.below b11; have kv_11 := kv_10.below b11; have kx_11 := kx_10.below b11; have ky_11 := ky_10.below b11; have kt_11 := kt_10.below b11; have a1_11 := a1_10.below b11; have a2_11 := a2_10.below b11; have b1_11 := b1_10.below b11; have b2_11 := b2_10.below b11; have m1_11 := m1_10.below b11; have m2_11 := m2_10.below b11; have ba_11 := ba_10.below b11 ba_10.lt; have bb_11 := bb_10.below b11 bb_10.lt; have bc_11 := bc_10.below b11 bc_10.lt; have qs_11 := qs_10.below b11 qs_10.lt; have qn_11 := qn_10.below b11 qn_10.lt; have qm_11 := qm_10.below b11 qm_10.lt; have F11 := below_then F10 (Nat.le_refl _) b11)
        | (go_at_call 13; (with_reducible refine (same_iv _ _ _ _ S1 S2 _ a1_11 a2_11 n1 n2 ((a1_11.len v1).mono k4) ((a2_11.len v2).mono k4)).mono ?_); rintro e w12 ⟨rfl, b12⟩; have ku_12 := ku_11.below b12; have kv_12 := kv_11.below b12; have kx_12 := kx_11.below b12; have ky_12 := ky_11.below b12; have kt_12 := kt_11.below b12; have a1_12 := a1_11.below b12; have a2_12 := a2_11.below b12; have b1_12 := b1_11.below b12; have b2_12 := b2_11.below b12; have m1_12 := m1_11.below b12; have m2_12 := m2_11.below b12; have n1_12 := n1.below b12; have n2_12 := n2.below b12; have ba_12 := ba_11.below b12 ba_11.lt; have bb_12 := bb_11.below b12 bb_11.lt; have bc_12 := bc_11.below b12 bc_11.lt; have qs_12 := qs_11.below b12 qs_11.lt; have qn_12 := qn_11.below b12 qn_11.lt; have qm_12 := qm_11.below b12 qm_11.lt; have F12 := below_then F11 (Nat.le_refl _) b12)
        | (go_at_call 23; (with_reducible refine (rneg_e _ _ p q N1 N2 _ HN1.out HN2.out ku_12.iu kv_12.iu la lc).mono ?_); rintro e w13 ⟨u13, v13, rfl, n3, n4, b13⟩; have ku_13 := ku_12.below b13; have kv_13 := kv_12.below b13; have kx_13 := kx_12.below b13; have ky_13 := ky_12.below b13; have kt_13 := kt_12.below b13; have a1_13 := a1_12.below b13; have a2_13 := a2_12.below b13; have b1_13 := b1_12.below b13; have b2_13 := b2_12.below b13; have m1_13 := m1_12.below b13; have m2_13 := m2_12.below b13; have n1_13 := n1_12.below b13; have n2_13 := n2_12.below b13; have ba_13 := ba_12.below b13 ba_12.lt; have bb_13 := bb_12.below b13 bb_12.lt; have bc_13 := bc_12.below b13 bc_12.lt; have qs_13 := qs_12.below b13 qs_12.lt; have qn_13 := qn_12.below b13 qn_12.lt; have qm_13 := qm_12.below b13 qm_12.lt; have F13 := below_then F12 (Nat.le_refl _) b13)
        | (go_at_call 13; (with_reducible refine (same_iv _ _ _ _ N1 N2 _ b1_13 b2_13 n3 n4 ((b1_13.len v3).mono k4) ((b2_13.len v4).mono k4)).mono ?_); rintro e w14 ⟨rfl, b14⟩; have ku_14 := ku_13.below b14; have kv_14 := kv_13.below b14; have kx_14 := kx_13.below b14; have ky_14 := ky_13.below b14; have kt_14 := kt_13.below b14; have a1_14 := a1_13.below b14; have a2_14 := a2_13.below b14; have b1_14 := b1_13.below b14; have b2_14 := b2_13.below b14; have m1_14 := m1_13.below b14; have m2_14 := m2_13.below b14; have n1_14 := n1_13.below b14; have n2_14 := n2_13.below b14; have n3_14 := n3.below b14; have n4_14 := n4.below b14; have ba_14 := ba_13.below b14 ba_13.lt; have bb_14 := bb_13.below b14 bb_13.lt; have bc_14 := bc_13.below b14 bc_13.lt; have qs_14 := qs_13.below b14 qs_13.lt; have qn_14 := qn_13.below b14 qn_13.lt; have qm_14 := qm_13.below b14 qm_13.lt; have F14 := below_then F13 (Nat.le_refl _) b14)
        | (go_at_call 24; (with_reducible refine (rscale_e _ _ _ p q z M1 M2 _ HM1.out HM2.out ku_14.iu kv_14.iu kt_14 la lc lt4 sp sq sz_).mono ?_); rintro e w15 ⟨u15, v15, rfl, n5, n6, b15⟩; have ku_15 := ku_14.below b15; have kv_15 := kv_14.below b15; have kx_15 := kx_14.below b15; have ky_15 := ky_14.below b15; have kt_15 := kt_14.below b15; have a1_15 := a1_14.below b15; have a2_15 := a2_14.below b15; have b1_15 := b1_14.below b15; have b2_15 := b2_14.below b15; have m1_15 := m1_14.below b15; have m2_15 := m2_14.below b15; have n1_15 := n1_14.below b15; have n2_15 := n2_14.below b15; have n3_15 := n3_14.below b15; have n4_15 := n4_14.below b15; have ba_15 := ba_14.below b15 ba_14.lt; have bb_15 := bb_14.below b15 bb_14.lt; have bc_15 := bc_14.below b15 bc_14.lt; have qs_15 := qs_14.below b15 qs_14.lt; have qn_15 := qn_14.below b15 qn_14.lt; have qm_15 := qm_14.below b15 qm_14.lt; have F15 := below_then F14 (Nat.le_refl _) b15)
        | (go_at_call 13; (with_reducible refine (same_iv _ _ _ _ M1 M2 _ m1_15 m2_15 n5 n6 ((m1_15.len v5).mono k4) ((m2_15.len v6).mono k4)).mono ?_); rintro e w16 ⟨rfl, b16⟩; have ku_16 := ku_15.below b16; have kv_16 := kv_15.below b16; have kx_16 := kx_15.below b16; have ky_16 := ky_15.below b16; have kt_16 := kt_15.below b16; have a1_16 := a1_15.below b16; have a2_16 := a2_15.below b16; have b1_16 := b1_15.below b16; have b2_16 := b2_15.below b16; have m1_16 := m1_15.below b16; have m2_16 := m2_15.below b16; have n1_16 := n1_15.below b16; have n2_16 := n2_15.below b16; have n3_16 := n3_15.below b16; have n4_16 := n4_15.below b16; have n5_16 := n5.below b16; have n6_16 := n6.below b16; have ba_16 := ba_15.below b16 ba_15.lt; have bb_16 := bb_15.below b16 bb_15.lt; have bc_16 := bc_15.below b16 bc_15.lt; have qs_16 := qs_15.below b16 qs_15.lt; have qn_16 := qn_15.below b16 qn_15.lt; have qm_16 := qm_15.below b16 qm_15.lt; have F16 := below_then F15 (Nat.le_refl _) b16)
        | fail)
    have ba_u16 := ba_16.cell0
    have ba_v16 := ba_16.cell1
    have ba_w16 := ba_16.cell2
    have ba_x16 := ba_16.cell3
    have ba_y16 := ba_16.cell4
    have ba_z16 := ba_16.cell5
    have bb_u16 := bb_16.cell0
    have bb_v16 := bb_16.cell1
    have bb_w16 := bb_16.cell2
    have bb_x16 := bb_16.cell3
    have bb_y16 := bb_16.cell4
    have bb_z16 := bb_16.cell5
    have bc_u16 := bc_16.cell0
    have bc_v16 := bc_16.cell1
    have bc_w16 := bc_16.cell2
    have qs_u16 := qs_16.cell0
    have qs_v16 := qs_16.cell1
    have qs_w16 := qs_16.cell2
    have qs_x16 := qs_16.cell3
    have qs_y16 := qs_16.cell4
    have qs_z16 := qs_16.cell5
    have qn_u16 := qn_16.cell0
    have qn_v16 := qn_16.cell1
    have qn_w16 := qn_16.cell2
    have qn_x16 := qn_16.cell3
    have qn_y16 := qn_16.cell4
    have qn_z16 := qn_16.cell5
    have qm_u16 := qm_16.cell0
    have qm_v16 := qm_16.cell1
    have qm_w16 := qm_16.cell2
    have qm_x16 := qm_16.cell3
    have qm_y16 := qm_16.cell4
    have qm_z16 := qm_16.cell5
    go_upto_region 8 with fail
    go_cut [10, 11] (fun sx sy wy => ∃ (Wpx : World) (gpx gpy : Nat) (pxu pyu : Rv), Wpx = wy ∧ sx = .pointer (some ⟨gpx, 0, none⟩) ∧ sy = .pointer (some ⟨gpy, 0, none⟩) ∧ Sq Wpx gpx (.bool pxu.s) (.slice pxu.A pxu.n pxu.c) (.slice pxu.B pxu.m pxu.d) ∧ Sq Wpx gpy (.bool pyu.s) (.slice pyu.A pyu.n pyu.c) (.slice pyu.B pyu.m pyu.d) ∧ w.heap.size ≠ gpx ∧ w.heap.size ≠ gpy ∧ w.heap.size + 1 ≠ gpx ∧ w.heap.size + 1 ≠ gpy ∧ w.heap.size + 2 ≠ gpx ∧ w.heap.size + 2 ≠ gpy ∧ gqs ≠ gpx ∧ gqs ≠ gpy ∧ gqn ≠ gpx ∧ gqn ≠ gpy ∧ gqm ≠ gpx ∧ gqm ≠ gpy ∧ Sv Wpx (w.heap.size) u v ∧ Sv Wpx (w.heap.size + 1) x y ∧ Su Wpx (w.heap.size + 2) t ∧ Sv Wpx (gqs) qsu qsv ∧ Sv Wpx (gqn) qnu qnv ∧ Sv Wpx (gqm) qmu qmv ∧ Cu Wpx u p ∧ Cu Wpx v q ∧ Cu Wpx x p' ∧ Cu Wpx y q' ∧ Iu Wpx t z ∧ Cu Wpx qsu S1 ∧ Cu Wpx qsv S2 ∧ Cu Wpx qnu N1 ∧ Cu Wpx qnv N2 ∧ Cu Wpx qmu M1 ∧ Cu Wpx qmv M2 ∧ Cu Wpx pxu X ∧ Cu Wpx pyu Y ∧ Below w.heap.size w Wpx)
    case first =>
      have ltq_ba := ba_16.lt
      have ltq_bb := bb_16.lt
      have ltq_bc := bc_16.lt
      have ltq_qs := qs_16.lt
      have ltq_qn := qn_16.lt
      have ltq_qm := qm_16.lt
      have glq := F16.size
      have nq1_ : w.heap.size ≠ w16.heap.size := by omega
      have nq2_ := Ne.symm nq1_
      have nq3_ : w.heap.size ≠ w16.heap.size + 1 := by omega
      have nq4_ := Ne.symm nq3_
      have ku_17 := ku_16.drew
      have kv_17 := kv_16.drew
      have kx_17 := kx_16.drew
      have ky_17 := ky_16.drew
      have kt_17 := kt_16.drew
      have a1_17 := a1_16.drew
      have a2_17 := a2_16.drew
      have b1_17 := b1_16.drew
      have b2_17 := b2_16.drew
      have m1_17 := m1_16.drew
      have m2_17 := m2_16.drew
      have ba_17 := ba_16.drew
      have bb_17 := bb_16.drew
      have bc_17 := bc_16.drew
      have qs_17 := qs_16.drew
      have qn_17 := qn_16.drew
      have qm_17 := qm_16.drew
      have F17 := F16.drew
      have ku_y1 := ku_16.alloc EQ0
      have kv_y1 := kv_16.alloc EQ0
      have kx_y1 := kx_16.alloc EQ0
      have ky_y1 := ky_16.alloc EQ0
      have kt_y1 := kt_16.alloc EQ0
      have a1_y1 := a1_16.alloc EQ0
      have a2_y1 := a2_16.alloc EQ0
      have b1_y1 := b1_16.alloc EQ0
      have b2_y1 := b2_16.alloc EQ0
      have m1_y1 := m1_16.alloc EQ0
      have m2_y1 := m2_16.alloc EQ0
      have ba_y1 := ba_16.alloc EQ0
      have bb_y1 := bb_16.alloc EQ0
      have bc_y1 := bc_16.alloc EQ0
      have qs_y1 := qs_16.alloc EQ0
      have qn_y1 := qn_16.alloc EQ0
      have qm_y1 := qm_16.alloc EQ0
      have zq1 : Sq ((w16).alloc EQ0) (w16.heap.size) (.bool false) (.slice none 0 0) (.slice none 0 0) := by have h_ := Sq.new (w16) (.bool false) (.slice none 0 0) (.slice none 0 0); exact h_
      have F_y1 := F16.alloc F16.size EQ0
      have ku_d1 := ku_y1.drew
      have kv_d1 := kv_y1.drew
      have kx_d1 := kx_y1.drew
      have ky_d1 := ky_y1.drew
      have kt_d1 := kt_y1.drew
      have a1_d1 := a1_y1.drew
      have a2_d1 := a2_y1.drew
      have b1_d1 := b1_y1.drew
      have b2_d1 := b2_y1.drew
      have m1_d1 := m1_y1.drew
      have m2_d1 := m2_y1.drew
      have ba_d1 := ba_y1.drew
      have bb_d1 := bb_y1.drew
      have bc_d1 := bc_y1.drew
      have qs_d1 := qs_y1.drew
      have qn_d1 := qn_y1.drew
      have qm_d1 := qm_y1.drew
      have z1_d1 := zq1.drew
      have F_d1 := F_y1.drew
      have ku_y2 := ku_y1.alloc EQ0
      have kv_y2 := kv_y1.alloc EQ0
      have kx_y2 := kx_y1.alloc EQ0
      have ky_y2 := ky_y1.alloc EQ0
      have kt_y2 := kt_y1.alloc EQ0
      have a1_y2 := a1_y1.alloc EQ0
      have a2_y2 := a2_y1.alloc EQ0
      have b1_y2 := b1_y1.alloc EQ0
      have b2_y2 := b2_y1.alloc EQ0
      have m1_y2 := m1_y1.alloc EQ0
      have m2_y2 := m2_y1.alloc EQ0
      have ba_y2 := ba_y1.alloc EQ0
      have bb_y2 := bb_y1.alloc EQ0
      have bc_y2 := bc_y1.alloc EQ0
      have qs_y2 := qs_y1.alloc EQ0
      have qn_y2 := qn_y1.alloc EQ0
      have qm_y2 := qm_y1.alloc EQ0
      have zq12 := zq1.alloc EQ0
      have zq2 : Sq (((w16).alloc EQ0).alloc EQ0) (w16.heap.size + 1) (.bool false) (.slice none 0 0) (.slice none 0 0) := by have h_ := Sq.new ((w16).alloc EQ0) (.bool false) (.slice none 0 0) (.slice none 0 0); simp only [World.size_alloc] at h_; exact h_
      have F_y2 := F_y1.alloc F_y1.size EQ0
      have ku_d2 := ku_y2.drew
      have kv_d2 := kv_y2.drew
      have kx_d2 := kx_y2.drew
      have ky_d2 := ky_y2.drew
      have kt_d2 := kt_y2.drew
      have a1_d2 := a1_y2.drew
      have a2_d2 := a2_y2.drew
      have b1_d2 := b1_y2.drew
      have b2_d2 := b2_y2.drew
      have m1_d2 := m1_y2.drew
      have m2_d2 := m2_y2.drew
      have ba_d2 := ba_y2.drew
      have bb_d2 := bb_y2.drew
      have bc_d2 := bc_y2.drew
      have qs_d2 := qs_y2.drew
      have qn_d2 := qn_y2.drew
      have qm_d2 := qm_y2.drew
      have z1_d2 := zq12.drew
      have z2_d2 := zq2.drew
      have F_d2 := F_y2.drew
      have lz1_ba := Nat.ne_of_lt ba_16.lt
      have ly1_ba := Ne.symm lz1_ba
      have lz1_bb := Nat.ne_of_lt bb_16.lt
      have ly1_bb := Ne.symm lz1_bb
      have lz1_bc := Nat.ne_of_lt bc_16.lt
      have ly1_bc := Ne.symm lz1_bc
      have lz1_qs := Nat.ne_of_lt qs_16.lt
      have ly1_qs := Ne.symm lz1_qs
      have lz1_qn := Nat.ne_of_lt qn_16.lt
      have ly1_qn := Ne.symm lz1_qn
      have lz1_qm := Nat.ne_of_lt qm_16.lt
      have ly1_qm := Ne.symm lz1_qm
      have lz2_ba : w.heap.size ≠ w16.heap.size + 1 := by omega
      have ly2_ba := Ne.symm lz2_ba
      have lz2_bb : w.heap.size + 1 ≠ w16.heap.size + 1 := by omega
      have ly2_bb := Ne.symm lz2_bb
      have lz2_bc : w.heap.size + 2 ≠ w16.heap.size + 1 := by omega
      have ly2_bc := Ne.symm lz2_bc
      have lz2_qs : gqs ≠ w16.heap.size + 1 := by omega
      have ly2_qs := Ne.symm lz2_qs
      have lz2_qn : gqn ≠ w16.heap.size + 1 := by omega
      have ly2_qn := Ne.symm lz2_qn
      have lz2_qm : gqm ≠ w16.heap.size + 1 := by omega
      have ly2_qm := Ne.symm lz2_qm
      have gl1 : w.heap.size ≤ w16.heap.size := by have := F16.size; omega
      have gl2 : w.heap.size ≤ w16.heap.size + 1 := by have := F16.size; omega
      have lzz1_2 : w16.heap.size ≠ w16.heap.size + 1 := by omega
      have lyy1_2 := Ne.symm lzz1_2
      go_region_held3 (fun w' => w'.cell? ⟨w.heap.size, 0, none⟩ = some (.bool u.s) ∧ w'.cell? ⟨w.heap.size, 1, none⟩ = some (.slice u.A u.n u.c) ∧ w'.cell? ⟨w.heap.size, 2, none⟩ = some (.slice u.B u.m u.d) ∧ w'.cell? ⟨w.heap.size, 3, none⟩ = some (.bool v.s) ∧ w'.cell? ⟨w.heap.size, 4, none⟩ = some (.slice v.A v.n v.c) ∧ w'.cell? ⟨w.heap.size, 5, none⟩ = some (.slice v.B v.m v.d) ∧ w'.cell? ⟨w.heap.size + 1, 0, none⟩ = some (.bool x.s) ∧ w'.cell? ⟨w.heap.size + 1, 1, none⟩ = some (.slice x.A x.n x.c) ∧ w'.cell? ⟨w.heap.size + 1, 2, none⟩ = some (.slice x.B x.m x.d) ∧ w'.cell? ⟨w.heap.size + 1, 3, none⟩ = some (.bool y.s) ∧ w'.cell? ⟨w.heap.size + 1, 4, none⟩ = some (.slice y.A y.n y.c) ∧ w'.cell? ⟨w.heap.size + 1, 5, none⟩ = some (.slice y.B y.m y.d) ∧ w'.cell? ⟨w.heap.size + 2, 0, none⟩ = some (.bool t.s) ∧ w'.cell? ⟨w.heap.size + 2, 1, none⟩ = some (.slice t.A t.n t.c) ∧ w'.cell? ⟨w.heap.size + 2, 2, none⟩ = some (.slice t.B t.m t.d) ∧ w'.cell? ⟨gqs, 0, none⟩ = some (.bool qsu.s) ∧ w'.cell? ⟨gqs, 1, none⟩ = some (.slice qsu.A qsu.n qsu.c) ∧ w'.cell? ⟨gqs, 2, none⟩ = some (.slice qsu.B qsu.m qsu.d) ∧ w'.cell? ⟨gqs, 3, none⟩ = some (.bool qsv.s) ∧ w'.cell? ⟨gqs, 4, none⟩ = some (.slice qsv.A qsv.n qsv.c) ∧ w'.cell? ⟨gqs, 5, none⟩ = some (.slice qsv.B qsv.m qsv.d) ∧ w'.cell? ⟨gqn, 0, none⟩ = some (.bool qnu.s) ∧ w'.cell? ⟨gqn, 1, none⟩ = some (.slice qnu.A qnu.n qnu.c) ∧ w'.cell? ⟨gqn, 2, none⟩ = some (.slice qnu.B qnu.m qnu.d) ∧ w'.cell? ⟨gqn, 3, none⟩ = some (.bool qnv.s) ∧ w'.cell? ⟨gqn, 4, none⟩ = some (.slice qnv.A qnv.n qnv.c) ∧ w'.cell? ⟨gqn, 5, none⟩ = some (.slice qnv.B qnv.m qnv.d) ∧ w'.cell? ⟨gqm, 0, none⟩ = some (.bool qmu.s) ∧ w'.cell? ⟨gqm, 1, none⟩ = some (.slice qmu.A qmu.n qmu.c) ∧ w'.cell? ⟨gqm, 2, none⟩ = some (.slice qmu.B qmu.m qmu.d) ∧ w'.cell? ⟨gqm, 3, none⟩ = some (.bool qmv.s) ∧ w'.cell? ⟨gqm, 4, none⟩ = some (.slice qmv.A qmv.n qmv.c) ∧ w'.cell? ⟨gqm, 5, none⟩ = some (.slice qmv.B qmv.m qmv.d))
        (first
          | with_reducible exact ⟨((ba_19.alloc EQ0).alloc EQ0).cell0, ((ba_19.alloc EQ0).alloc EQ0).cell1, ((ba_19.alloc EQ0).alloc EQ0).cell2, ((ba_19.alloc EQ0).alloc EQ0).cell3, ((ba_19.alloc EQ0).alloc EQ0).cell4, ((ba_19.alloc EQ0).alloc EQ0).cell5, ((bb_19.alloc EQ0).alloc EQ0).cell0, ((bb_19.alloc EQ0).alloc EQ0).cell1, ((bb_19.alloc EQ0).alloc EQ0).cell2, ((bb_19.alloc EQ0).alloc EQ0).cell3, ((bb_19.alloc EQ0).alloc EQ0).cell4, ((bb_19.alloc EQ0).alloc EQ0).cell5, ((bc_19.alloc EQ0).alloc EQ0).cell0, ((bc_19.alloc EQ0).alloc EQ0).cell1, ((bc_19.alloc EQ0).alloc EQ0).cell2, ((qs_19.alloc EQ0).alloc EQ0).cell0, ((qs_19.alloc EQ0).alloc EQ0).cell1, ((qs_19.alloc EQ0).alloc EQ0).cell2, ((qs_19.alloc EQ0).alloc EQ0).cell3, ((qs_19.alloc EQ0).alloc EQ0).cell4, ((qs_19.alloc EQ0).alloc EQ0).cell5, ((qn_19.alloc EQ0).alloc EQ0).cell0, ((qn_19.alloc EQ0).alloc EQ0).cell1, ((qn_19.alloc EQ0).alloc EQ0).cell2, ((qn_19.alloc EQ0).alloc EQ0).cell3, ((qn_19.alloc EQ0).alloc EQ0).cell4, ((qn_19.alloc EQ0).alloc EQ0).cell5, ((qm_19.alloc EQ0).alloc EQ0).cell0, ((qm_19.alloc EQ0).alloc EQ0).cell1, ((qm_19.alloc EQ0).alloc EQ0).cell2, ((qm_19.alloc EQ0).alloc EQ0).cell3, ((qm_19.alloc EQ0).alloc EQ0).cell4, ((qm_19.alloc EQ0).alloc EQ0).cell5⟩
          | with_reducible exact ⟨(ba_19.alloc EQ0).cell0, (ba_19.alloc EQ0).cell1, (ba_19.alloc EQ0).cell2, (ba_19.alloc EQ0).cell3, (ba_19.alloc EQ0).cell4, (ba_19.alloc EQ0).cell5, (bb_19.alloc EQ0).cell0, (bb_19.alloc EQ0).cell1, (bb_19.alloc EQ0).cell2, (bb_19.alloc EQ0).cell3, (bb_19.alloc EQ0).cell4, (bb_19.alloc EQ0).cell5, (bc_19.alloc EQ0).cell0, (bc_19.alloc EQ0).cell1, (bc_19.alloc EQ0).cell2, (qs_19.alloc EQ0).cell0, (qs_19.alloc EQ0).cell1, (qs_19.alloc EQ0).cell2, (qs_19.alloc EQ0).cell3, (qs_19.alloc EQ0).cell4, (qs_19.alloc EQ0).cell5, (qn_19.alloc EQ0).cell0, (qn_19.alloc EQ0).cell1, (qn_19.alloc EQ0).cell2, (qn_19.alloc EQ0).cell3, (qn_19.alloc EQ0).cell4, (qn_19.alloc EQ0).cell5, (qm_19.alloc EQ0).cell0, (qm_19.alloc EQ0).cell1, (qm_19.alloc EQ0).cell2, (qm_19.alloc EQ0).cell3, (qm_19.alloc EQ0).cell4, (qm_19.alloc EQ0).cell5⟩
          | with_reducible exact ⟨ba_19.cell0, ba_19.cell1, ba_19.cell2, ba_19.cell3, ba_19.cell4, ba_19.cell5, bb_19.cell0, bb_19.cell1, bb_19.cell2, bb_19.cell3, bb_19.cell4, bb_19.cell5, bc_19.cell0, bc_19.cell1, bc_19.cell2, qs_19.cell0, qs_19.cell1, qs_19.cell2, qs_19.cell3, qs_19.cell4, qs_19.cell5, qn_19.cell0, qn_19.cell1, qn_19.cell2, qn_19.cell3, qn_19.cell4, qn_19.cell5, qm_19.cell0, qm_19.cell1, qm_19.cell2, qm_19.cell3, qm_19.cell4, qm_19.cell5⟩
          | with_reducible exact ⟨((ba_18.alloc EQ0).alloc EQ0).cell0, ((ba_18.alloc EQ0).alloc EQ0).cell1, ((ba_18.alloc EQ0).alloc EQ0).cell2, ((ba_18.alloc EQ0).alloc EQ0).cell3, ((ba_18.alloc EQ0).alloc EQ0).cell4, ((ba_18.alloc EQ0).alloc EQ0).cell5, ((bb_18.alloc EQ0).alloc EQ0).cell0, ((bb_18.alloc EQ0).alloc EQ0).cell1, ((bb_18.alloc EQ0).alloc EQ0).cell2, ((bb_18.alloc EQ0).alloc EQ0).cell3, ((bb_18.alloc EQ0).alloc EQ0).cell4, ((bb_18.alloc EQ0).alloc EQ0).cell5, ((bc_18.alloc EQ0).alloc EQ0).cell0, ((bc_18.alloc EQ0).alloc EQ0).cell1, ((bc_18.alloc EQ0).alloc EQ0).cell2, ((qs_18.alloc EQ0).alloc EQ0).cell0, ((qs_18.alloc EQ0).alloc EQ0).cell1, ((qs_18.alloc EQ0).alloc EQ0).cell2, ((qs_18.alloc EQ0).alloc EQ0).cell3, ((qs_18.alloc EQ0).alloc EQ0).cell4, ((qs_18.alloc EQ0).alloc EQ0).cell5, ((qn_18.alloc EQ0).alloc EQ0).cell0, ((qn_18.alloc EQ0).alloc EQ0).cell1, ((qn_18.alloc EQ0).alloc EQ0).cell2, ((qn_18.alloc EQ0).alloc EQ0).cell3, ((qn_18.alloc EQ0).alloc EQ0).cell4, ((qn_18.alloc EQ0).alloc EQ0).cell5, ((qm_18.alloc EQ0).alloc EQ0).cell0, ((qm_18.alloc EQ0).alloc EQ0).cell1, ((qm_18.alloc EQ0).alloc EQ0).cell2, ((qm_18.alloc EQ0).alloc EQ0).cell3, ((qm_18.alloc EQ0).alloc EQ0).cell4, ((qm_18.alloc EQ0).alloc EQ0).cell5⟩
          | with_reducible exact ⟨(ba_18.alloc EQ0).cell0, (ba_18.alloc EQ0).cell1, (ba_18.alloc EQ0).cell2, (ba_18.alloc EQ0).cell3, (ba_18.alloc EQ0).cell4, (ba_18.alloc EQ0).cell5, (bb_18.alloc EQ0).cell0, (bb_18.alloc EQ0).cell1, (bb_18.alloc EQ0).cell2, (bb_18.alloc EQ0).cell3, (bb_18.alloc EQ0).cell4, (bb_18.alloc EQ0).cell5, (bc_18.alloc EQ0).cell0, (bc_18.alloc EQ0).cell1, (bc_18.alloc EQ0).cell2, (qs_18.alloc EQ0).cell0, (qs_18.alloc EQ0).cell1, (qs_18.alloc EQ0).cell2, (qs_18.alloc EQ0).cell3, (qs_18.alloc EQ0).cell4, (qs_18.alloc EQ0).cell5, (qn_18.alloc EQ0).cell0, (qn_18.alloc EQ0).cell1, (qn_18.alloc EQ0).cell2, (qn_18.alloc EQ0).cell3, (qn_18.alloc EQ0).cell4, (qn_18.alloc EQ0).cell5, (qm_18.alloc EQ0).cell0, (qm_18.alloc EQ0).cell1, (qm_18.alloc EQ0).cell2, (qm_18.alloc EQ0).cell3, (qm_18.alloc EQ0).cell4, (qm_18.alloc EQ0).cell5⟩
          | with_reducible exact ⟨ba_18.cell0, ba_18.cell1, ba_18.cell2, ba_18.cell3, ba_18.cell4, ba_18.cell5, bb_18.cell0, bb_18.cell1, bb_18.cell2, bb_18.cell3, bb_18.cell4, bb_18.cell5, bc_18.cell0, bc_18.cell1, bc_18.cell2, qs_18.cell0, qs_18.cell1, qs_18.cell2, qs_18.cell3, qs_18.cell4, qs_18.cell5, qn_18.cell0, qn_18.cell1, qn_18.cell2, qn_18.cell3, qn_18.cell4, qn_18.cell5, qm_18.cell0, qm_18.cell1, qm_18.cell2, qm_18.cell3, qm_18.cell4, qm_18.cell5⟩
          | with_reducible exact ⟨ba_d2.cell0, ba_d2.cell1, ba_d2.cell2, ba_d2.cell3, ba_d2.cell4, ba_d2.cell5, bb_d2.cell0, bb_d2.cell1, bb_d2.cell2, bb_d2.cell3, bb_d2.cell4, bb_d2.cell5, bc_d2.cell0, bc_d2.cell1, bc_d2.cell2, qs_d2.cell0, qs_d2.cell1, qs_d2.cell2, qs_d2.cell3, qs_d2.cell4, qs_d2.cell5, qn_d2.cell0, qn_d2.cell1, qn_d2.cell2, qn_d2.cell3, qn_d2.cell4, qn_d2.cell5, qm_d2.cell0, qm_d2.cell1, qm_d2.cell2, qm_d2.cell3, qm_d2.cell4, qm_d2.cell5⟩
          | with_reducible exact ⟨ba_d1.cell0, ba_d1.cell1, ba_d1.cell2, ba_d1.cell3, ba_d1.cell4, ba_d1.cell5, bb_d1.cell0, bb_d1.cell1, bb_d1.cell2, bb_d1.cell3, bb_d1.cell4, bb_d1.cell5, bc_d1.cell0, bc_d1.cell1, bc_d1.cell2, qs_d1.cell0, qs_d1.cell1, qs_d1.cell2, qs_d1.cell3, qs_d1.cell4, qs_d1.cell5, qn_d1.cell0, qn_d1.cell1, qn_d1.cell2, qn_d1.cell3, qn_d1.cell4, qn_d1.cell5, qm_d1.cell0, qm_d1.cell1, qm_d1.cell2, qm_d1.cell3, qm_d1.cell4, qm_d1.cell5⟩
          | with_reducible exact ⟨ba_17.cell0, ba_17.cell1, ba_17.cell2, ba_17.cell3, ba_17.cell4, ba_17.cell5, bb_17.cell0, bb_17.cell1, bb_17.cell2, bb_17.cell3, bb_17.cell4, bb_17.cell5, bc_17.cell0, bc_17.cell1, bc_17.cell2, qs_17.cell0, qs_17.cell1, qs_17.cell2, qs_17.cell3, qs_17.cell4, qs_17.cell5, qn_17.cell0, qn_17.cell1, qn_17.cell2, qn_17.cell3, qn_17.cell4, qn_17.cell5, qm_17.cell0, qm_17.cell1, qm_17.cell2, qm_17.cell3, qm_17.cell4, qm_17.cell5⟩
          | go_keep
          | fail)
        (first
          | (go_at_call 25; (with_reducible refine (at_e _ _ p q X _ 100 _ rfl HX.out HO.out.1 ku_17 kv_17 p9 q9).mono ?_); rintro e w18 ⟨u18, rfl, x1, b18⟩; have ku_18 := ku_17.below b18; have kv_18 := kv_17.below b18; have kx_18 := kx_17.below b18; have ky_18 := ky_17.below b18; have kt_18 := kt_17.below b18; have a1_18 := a1_17.below b18; have a2_18 := a2_17.below b18; have b1_18 := b1_17.below b18; have b2_18 := b2_17.below b18; have m1_18 := m1_17.below b18; have m2_18 := m2_17.below b18; have ba_18 := ba_17.below b18 ba_17.lt; have bb_18 := bb_17.below b18 bb_17.lt; have bc_18 := bc_17.below b18 bc_17.lt; have qs_18 := qs_17.below b18 qs_17.lt; have qn_18 := qn_17.below b18 qn_17.lt; have qm_18 := qm_17.below b18 qm_17.lt; have F18 := below_then F17 (Nat.le_refl _) b18)
          | (go_at_call 25; (with_reducible refine (at_e _ _ p q X _ 100 _ rfl HX.out HO.out.1 ku_d1 kv_d1 p9 q9).mono ?_); rintro e w18 ⟨u18, rfl, x1, b18⟩; have ku_18 := ku_d1.below b18; have kv_18 := kv_d1.below b18; have kx_18 := kx_d1.below b18; have ky_18 := ky_d1.below b18; have kt_18 := kt_d1.below b18; have a1_18 := a1_d1.below b18; have a2_18 := a2_d1.below b18; have b1_18 := b1_d1.below b18; have b2_18 := b2_d1.below b18; have m1_18 := m1_d1.below b18; have m2_18 := m2_d1.below b18; have ba_18 := ba_d1.below b18 ba_d1.lt; have bb_18 := bb_d1.below b18 bb_d1.lt; have bc_18 := bc_d1.below b18 bc_d1.lt; have qs_18 := qs_d1.below b18 qs_d1.lt; have qn_18 := qn_d1.below b18 qn_d1.lt; have qm_18 := qm_d1.below b18 qm_d1.lt; have z1_18 := z1_d1.below b18 z1_d1.lt; have F18 := below_then F_d1 (Nat.le_refl _) b18)
          | (go_at_call 25; (with_reducible refine (at_e _ _ p q X _ 100 _ rfl HX.out HO.out.1 ku_d2 kv_d2 p9 q9).mono ?_); rintro e w18 ⟨u18, rfl, x1, b18⟩; have ku_18 := ku_d2.below b18; have kv_18 := kv_d2.below b18; have kx_18 := kx_d2.below b18; have ky_18 := ky_d2.below b18; have kt_18 := kt_d2.below b18; have a1_18 := a1_d2.below b18; have a2_18 := a2_d2.below b18; have b1_18 := b1_d2.below b18; have b2_18 := b2_d2.below b18; have m1_18 := m1_d2.below b18; have m2_18 := m2_d2.below b18; have ba_18 := ba_d2.below b18 ba_d2.lt; have bb_18 := bb_d2.below b18 bb_d2.lt; have bc_18 := bc_d2.below b18 bc_d2.lt; have qs_18 := qs_d2.below b18 qs_d2.lt; have qn_18 := qn_d2.below b18 qn_d2.lt; have qm_18 := qm_d2.below b18 qm_d2.lt; have z1_18 := z1_d2.below b18 z1_d2.lt; have z2_18 := z2_d2.below b18 z2_d2.lt; have F18 := below_then F_d2 (Nat.le_refl _) b18)
          | (go_at_call 25; (with_reducible refine (at_e _ _ p' q' Y _ 30 _ rfl HY.out HO.out.2 kx_18 ky_18 p9' q9').mono ?_); rintro e w19 ⟨u19, rfl, y1, b19⟩; have ku_19 := ku_18.below b19; have kv_19 := kv_18.below b19; have kx_19 := kx_18.below b19; have ky_19 := ky_18.below b19; have kt_19 := kt_18.below b19; have a1_19 := a1_18.below b19; have a2_19 := a2_18.below b19; have b1_19 := b1_18.below b19; have b2_19 := b2_18.below b19; have m1_19 := m1_18.below b19; have m2_19 := m2_18.below b19; have x1_19 := x1.below b19; have ba_19 := ba_18.below b19 ba_18.lt; have bb_19 := bb_18.below b19 bb_18.lt; have bc_19 := bc_18.below b19 bc_18.lt; have qs_19 := qs_18.below b19 qs_18.lt; have qn_19 := qn_18.below b19 qn_18.lt; have qm_19 := qm_18.below b19 qm_18.lt; have z1_19 := z1_18.below b19 z1_18.lt; have z2_19 := z2_18.below b19 z2_18.lt; have zk0_0 := z1_19.cell0; have zf0_0 := z1_19.frozen 0; have zk0_1 := z1_19.cell1; have zf0_1 := z1_19.frozen 1; have zk0_2 := z1_19.cell2; have zf0_2 := z1_19.frozen 2; have zk1_0 := z2_19.cell0; have zf1_0 := z2_19.frozen 0; have zk1_1 := z2_19.cell1; have zf1_1 := z2_19.frozen 1; have zk1_2 := z2_19.cell2; have zf1_2 := z2_19.frozen 2; have F19 := below_then F18 (Nat.le_refl _) b19; have kl_ba := ba_19.lt; have km_ba := Nat.ne_of_lt ba_19.lt; have kn_ba := Nat.ne_of_gt ba_19.lt; have kc_ba0 := ba_19.cell0; have kc_ba1 := ba_19.cell1; have kc_ba2 := ba_19.cell2; have kc_ba3 := ba_19.cell3; have kc_ba4 := ba_19.cell4; have kc_ba5 := ba_19.cell5; have kl_bb := bb_19.lt; have km_bb := Nat.ne_of_lt bb_19.lt; have kn_bb := Nat.ne_of_gt bb_19.lt; have kc_bb0 := bb_19.cell0; have kc_bb1 := bb_19.cell1; have kc_bb2 := bb_19.cell2; have kc_bb3 := bb_19.cell3; have kc_bb4 := bb_19.cell4; have kc_bb5 := bb_19.cell5; have kl_bc := bc_19.lt; have km_bc := Nat.ne_of_lt bc_19.lt; have kn_bc := Nat.ne_of_gt bc_19.lt; have kc_bc0 := bc_19.cell0; have kc_bc1 := bc_19.cell1; have kc_bc2 := bc_19.cell2; have kl_qs := qs_19.lt; have km_qs := Nat.ne_of_lt qs_19.lt; have kn_qs := Nat.ne_of_gt qs_19.lt; have kc_qs0 := qs_19.cell0; have kc_qs1 := qs_19.cell1; have kc_qs2 := qs_19.cell2; have kc_qs3 := qs_19.cell3; have kc_qs4 := qs_19.cell4; have kc_qs5 := qs_19.cell5; have kl_qn := qn_19.lt; have km_qn := Nat.ne_of_lt qn_19.lt; have kn_qn := Nat.ne_of_gt qn_19.lt; have kc_qn0 := qn_19.cell0; have kc_qn1 := qn_19.cell1; have kc_qn2 := qn_19.cell2; have kc_qn3 := qn_19.cell3; have kc_qn4 := qn_19.cell4; have kc_qn5 := qn_19.cell5; have kl_qm := qm_19.lt; have km_qm := Nat.ne_of_lt qm_19.lt; have kn_qm := Nat.ne_of_gt qm_19.lt; have kc_qm0 := qm_19.cell0; have kc_qm1 := qm_19.cell1; have kc_qm2 := qm_19.cell2; have kc_qm3 := qm_19.cell3; have kc_qm4 := qm_19.cell4; have kc_qm5 := qm_19.cell5; have kl0 := z1_19.lt; have km0 := Nat.ne_of_lt z1_19.lt; have kn0 := Nat.ne_of_gt z1_19.lt; have kl1 := z2_19.lt; have km1 := Nat.ne_of_lt z2_19.lt; have kn1 := Nat.ne_of_gt z2_19.lt)
          | (go_at_call 25; (with_reducible refine (at_e _ _ p' q' Y _ 30 _ rfl HY.out HO.out.2 kx_18 ky_18 p9' q9').mono ?_); rintro e w19 ⟨u19, rfl, y1, b19⟩; have ku_19 := ku_18.below b19; have kv_19 := kv_18.below b19; have kx_19 := kx_18.below b19; have ky_19 := ky_18.below b19; have kt_19 := kt_18.below b19; have a1_19 := a1_18.below b19; have a2_19 := a2_18.below b19; have b1_19 := b1_18.below b19; have b2_19 := b2_18.below b19; have m1_19 := m1_18.below b19; have m2_19 := m2_18.below b19; have x1_19 := x1.below b19; have ba_19 := ba_18.below b19 ba_18.lt; have bb_19 := bb_18.below b19 bb_18.lt; have bc_19 := bc_18.below b19 bc_18.lt; have qs_19 := qs_18.below b19 qs_18.lt; have qn_19 := qn_18.below b19 qn_18.lt; have qm_19 := qm_18.below b19 qm_18.lt; have z1_19 := z1_18.below b19 z1_18.lt; have zk0_0 := z1_19.cell0; have zf0_0 := z1_19.frozen 0; have zk0_1 := z1_19.cell1; have zf0_1 := z1_19.frozen 1; have zk0_2 := z1_19.cell2; have zf0_2 := z1_19.frozen 2; have F19 := below_then F18 (Nat.le_refl _) b19; have kl_ba := ba_19.lt; have km_ba := Nat.ne_of_lt ba_19.lt; have kn_ba := Nat.ne_of_gt ba_19.lt; have kc_ba0 := ba_19.cell0; have kc_ba1 := ba_19.cell1; have kc_ba2 := ba_19.cell2; have kc_ba3 := ba_19.cell3; have kc_ba4 := ba_19.cell4; have kc_ba5 := ba_19.cell5; have kl_bb := bb_19.lt; have km_bb := Nat.ne_of_lt bb_19.lt; have kn_bb := Nat.ne_of_gt bb_19.lt; have kc_bb0 := bb_19.cell0; have kc_bb1 := bb_19.cell1; have kc_bb2 := bb_19.cell2; have kc_bb3 := bb_19.cell3; have kc_bb4 := bb_19.cell4; have kc_bb5 := bb_19.cell5; have kl_bc := bc_19.lt; have km_bc := Nat.ne_of_lt bc_19.lt; have kn_bc := Nat.ne_of_gt bc_19.lt; have kc_bc0 := bc_19.cell0; have kc_bc1 := bc_19.cell1; have kc_bc2 := bc_19.cell2; have kl_qs := qs_19.lt; have km_qs := Nat.ne_of_lt qs_19.lt; have kn_qs := Nat.ne_of_gt qs_19.lt; have kc_qs0 := qs_19.cell0; have kc_qs1 := qs_19.cell1; have kc_qs2 := qs_19.cell2; have kc_qs3 := qs_19.cell3; have kc_qs4 := qs_19.cell4; have kc_qs5 := qs_19.cell5; have kl_qn := qn_19.lt; have km_qn := Nat.ne_of_lt qn_19.lt; have kn_qn := Nat.ne_of_gt qn_19.lt; have kc_qn0 := qn_19.cell0; have kc_qn1 := qn_19.cell1; have kc_qn2 := qn_19.cell2; have kc_qn3 := qn_19.cell3; have kc_qn4 := qn_19.cell4; have kc_qn5 := qn_19.cell5; have kl_qm := qm_19.lt; have km_qm := Nat.ne_of_lt qm_19.lt; have kn_qm := Nat.ne_of_gt qm_19.lt; have kc_qm0 := qm_19.cell0; have kc_qm1 := qm_19.cell1; have kc_qm2 := qm_19.cell2; have kc_qm3 := qm_19.cell3; have kc_qm4 := qm_19.cell4; have kc_qm5 := qm_19.cell5; have kl0 := z1_19.lt; have km0 := Nat.ne_of_lt z1_19.lt; have kn0 := Nat.ne_of_gt z1_19.lt)
          | (have qx_ba := ba_18.lt; have qx_bb := bb_18.lt; have qx_bc := bc_18.lt; have qx_qs := qs_18.lt; have qx_qn := qn_18.lt; have qx_qm := qm_18.lt; have qz_z1_18 := z1_18.lt; have lz2_ba : w.heap.size ≠ w18.heap.size := (by omega); have ly2_ba := Ne.symm lz2_ba; have lz2_bb : w.heap.size + 1 ≠ w18.heap.size := (by omega); have ly2_bb := Ne.symm lz2_bb; have lz2_bc : w.heap.size + 2 ≠ w18.heap.size := (by omega); have ly2_bc := Ne.symm lz2_bc; have lz2_qs : gqs ≠ w18.heap.size := (by omega); have ly2_qs := Ne.symm lz2_qs; have lz2_qn : gqn ≠ w18.heap.size := (by omega); have ly2_qn := Ne.symm lz2_qn; have lz2_qm : gqm ≠ w18.heap.size := (by omega); have ly2_qm := Ne.symm lz2_qm; have gl2 : w.heap.size ≤ w18.heap.size := (by have := F18.size; omega); have lzz1_2 := Nat.ne_of_lt (Nat.lt_of_lt_of_le qz_z1_18 (show w18.heap.size ≤ w18.heap.size by omega)); have lyy1_2 := Ne.symm lzz1_2; have ku_18a := ku_18.alloc EQ0; have kv_18a := kv_18.alloc EQ0; have kx_18a := kx_18.alloc EQ0; have ky_18a := ky_18.alloc EQ0; have kt_18a := kt_18.alloc EQ0; have a1_18a := a1_18.alloc EQ0; have a2_18a := a2_18.alloc EQ0; have b1_18a := b1_18.alloc EQ0; have b2_18a := b2_18.alloc EQ0; have m1_18a := m1_18.alloc EQ0; have m2_18a := m2_18.alloc EQ0; have x1_18a := x1.alloc EQ0; have ba_18a := ba_18.alloc EQ0; have bb_18a := bb_18.alloc EQ0; have bc_18a := bc_18.alloc EQ0; have qs_18a := qs_18.alloc EQ0; have qn_18a := qn_18.alloc EQ0; have qm_18a := qm_18.alloc EQ0; have z1_18a := z1_18.alloc EQ0; have z2_18a : Sq ((w18).alloc EQ0) (w18.heap.size) (.bool false) (.slice none 0 0) (.slice none 0 0) := (by (have h_ := Sq.new (w18) (.bool false) (.slice none 0 0) (.slice none 0 0); exact h_)); have F_18a := F18.alloc F18.size EQ0; go_at_call 25; (with_reducible refine (at_e _ _ p' q' Y _ 30 _ rfl HY.out HO.out.2 kx_18a ky_18a p9' q9').mono ?_); rintro e w19 ⟨u19, rfl, y1, b19⟩; have ku_19 := ku_18a.below b19; have kv_19 := kv_18a.below b19; have kx_19 := kx_18a.below b19; have ky_19 := ky_18a.below b19; have kt_19 := kt_18a.below b19; have a1_19 := a1_18a.below b19; have a2_19 := a2_18a.below b19; have b1_19 := b1_18a.below b19; have b2_19 := b2_18a.below b19; have m1_19 := m1_18a.below b19; have m2_19 := m2_18a.below b19; have x1_19 := x1_18a.below b19; have ba_19 := ba_18a.below b19 ba_18a.lt; have bb_19 := bb_18a.below b19 bb_18a.lt; have bc_19 := bc_18a.below b19 bc_18a.lt; have qs_19 := qs_18a.below b19 qs_18a.lt; have qn_19 := qn_18a.below b19 qn_18a.lt; have qm_19 := qm_18a.below b19 qm_18a.lt; have z1_19 := z1_18a.below b19 z1_18a.lt; have z2_19 := z2_18a.below b19 z2_18a.lt; have zk0_0 := z1_19.cell0; have zf0_0 := z1_19.frozen 0; have zk0_1 := z1_19.cell1; have zf0_1 := z1_19.frozen 1; have zk0_2 := z1_19.cell2; have zf0_2 := z1_19.frozen 2; have zk1_0 := z2_19.cell0; have zf1_0 := z2_19.frozen 0; have zk1_1 := z2_19.cell1; have zf1_1 := z2_19.frozen 1; have zk1_2 := z2_19.cell2; have zf1_2 := z2_19.frozen 2; have F19 := below_then F_18a (Nat.le_refl _) b19; have kl_ba := ba_19.lt; have km_ba := Nat.ne_of_lt ba_19.lt; have kn_ba := Nat.ne_of_gt ba_19.lt; have kc_ba0 := ba_19.cell0; have kc_ba1 := ba_19.cell1; have kc_ba2 := ba_19.cell2; have kc_ba3 := ba_19.cell3; have kc_ba4 := ba_19.cell4; have kc_ba5 := ba_19.cell5; have kl_bb := bb_19.lt; have km_bb := Nat.ne_of_lt bb_19.lt; have kn_bb := Nat.ne_of_gt bb_19.lt; have kc_bb0 := bb_19.cell0; have kc_bb1 := bb_19.cell1; have kc_bb2 := bb_19.cell2; have kc_bb3 := bb_19.cell3; have kc_bb4 := bb_19.cell4; have kc_bb5 := bb_19.cell5; have kl_bc := bc_19.lt; have km_bc := Nat.ne_of_lt bc_19.lt; have kn_bc := Nat.ne_of_gt bc_19.lt; have kc_bc0 := bc_19.cell0; have kc_bc1 := bc_19.cell1; have kc_bc2 := bc_19.cell2; have kl_qs := qs_19.lt; have km_qs := Nat.ne_of_lt qs_19.lt; have kn_qs := Nat.ne_of_gt qs_19.lt; have kc_qs0 := qs_19.cell0; have kc_qs1 := qs_19.cell1; have kc_qs2 := qs_19.cell2; have kc_qs3 := qs_19.cell3; have kc_qs4 := qs_19.cell4; have kc_qs5 := qs_19.cell5; have kl_qn := qn_19.lt; have km_qn := Nat.ne_of_lt qn_19.lt; have kn_qn := Nat.ne_of_gt qn_19.lt; have kc_qn0 := qn_19.cell0; have kc_qn1 := qn_19.cell1; have kc_qn2 := qn_19.cell2; have kc_qn3 := qn_19.cell3; have kc_qn4 := qn_19.cell4; have kc_qn5 := qn_19.cell5; have kl_qm := qm_19.lt; have km_qm := Nat.ne_of_lt qm_19.lt; have kn_qm := Nat.ne_of_gt qm_19.lt; have kc_qm0 := qm_19.cell0; have kc_qm1 := qm_19.cell1; have kc_qm2 := qm_19.cell2; have kc_qm3 := qm_19.cell3; have kc_qm4 := qm_19.cell4; have kc_qm5 := qm_19.cell5; have kl0 := z1_19.lt; have km0 := Nat.ne_of_lt z1_19.lt; have kn0 := Nat.ne_of_gt z1_19.lt; have kl1 := z2_19.lt; have km1 := Nat.ne_of_lt z2_19.lt; have kn1 := Nat.ne_of_gt z2_19.lt)
          | (go_at_call 25; (with_reducible refine (at_e _ _ p' q' Y _ 30 _ rfl HY.out HO.out.2 kx_18 ky_18 p9' q9').mono ?_); rintro e w19 ⟨u19, rfl, y1, b19⟩; have ku_19 := ku_18.below b19; have kv_19 := kv_18.below b19; have kx_19 := kx_18.below b19; have ky_19 := ky_18.below b19; have kt_19 := kt_18.below b19; have a1_19 := a1_18.below b19; have a2_19 := a2_18.below b19; have b1_19 := b1_18.below b19; have b2_19 := b2_18.below b19; have m1_19 := m1_18.below b19; have m2_19 := m2_18.below b19; have x1_19 := x1.below b19; have ba_19 := ba_18.below b19 ba_18.lt; have bb_19 := bb_18.below b19 bb_18.lt; have bc_19 := bc_18.below b19 bc_18.lt; have qs_19 := qs_18.below b19 qs_18.lt; have qn_19 := qn_18.below b19 qn_18.lt; have qm_19 := qm_18.below b19 qm_18.lt; have F19 := below_then F18 (Nat.le_refl _) b19; have kl_ba := ba_19.lt; have km_ba := Nat.ne_of_lt ba_19.lt; have kn_ba := Nat.ne_of_gt ba_19.lt; have kc_ba0 := ba_19.cell0; have kc_ba1 := ba_19.cell1; have kc_ba2 := ba_19.cell2; have kc_ba3 := ba_19.cell3; have kc_ba4 := ba_19.cell4; have kc_ba5 := ba_19.cell5; have kl_bb := bb_19.lt; have km_bb := Nat.ne_of_lt bb_19.lt; have kn_bb := Nat.ne_of_gt bb_19.lt; have kc_bb0 := bb_19.cell0; have kc_bb1 := bb_19.cell1; have kc_bb2 := bb_19.cell2; have kc_bb3 := bb_19.cell3; have kc_bb4 := bb_19.cell4; have kc_bb5 := bb_19.cell5; have kl_bc := bc_19.lt; have km_bc := Nat.ne_of_lt bc_19.lt; have kn_bc := Nat.ne_of_gt bc_19.lt; have kc_bc0 := bc_19.cell0; have kc_bc1 := bc_19.cell1; have kc_bc2 := bc_19.cell2; have kl_qs := qs_19.lt; have km_qs := Nat.ne_of_lt qs_19.lt; have kn_qs := Nat.ne_of_gt qs_19.lt; have kc_qs0 := qs_19.cell0; have kc_qs1 := qs_19.cell1; have kc_qs2 := qs_19.cell2; have kc_qs3 := qs_19.cell3; have kc_qs4 := qs_19.cell4; have kc_qs5 := qs_19.cell5; have kl_qn := qn_19.lt; have km_qn := Nat.ne_of_lt qn_19.lt; have kn_qn := Nat.ne_of_gt qn_19.lt; have kc_qn0 := qn_19.cell0; have kc_qn1 := qn_19.cell1; have kc_qn2 := qn_19.cell2; have kc_qn3 := qn_19.cell3; have kc_qn4 := qn_19.cell4; have kc_qn5 := qn_19.cell5; have kl_qm := qm_19.lt; have km_qm := Nat.ne_of_lt qm_19.lt; have kn_qm := Nat.ne_of_gt qm_19.lt; have kc_qm0 := qm_19.cell0; have kc_qm1 := qm_19.cell1; have kc_qm2 := qm_19.cell2; have kc_qm3 := qm_19.cell3; have kc_qm4 := qm_19.cell4; have kc_qm5 := qm_19.cell5)
          | (have qx_ba := ba_18.lt; have qx_bb := bb_18.lt; have qx_bc := bc_18.lt; have qx_qs := qs_18.lt; have qx_qn := qn_18.lt; have qx_qm := qm_18.lt; have lz1_ba : w.heap.size ≠ w18.heap.size := (by omega); have ly1_ba := Ne.symm lz1_ba; have lz1_bb : w.heap.size + 1 ≠ w18.heap.size := (by omega); have ly1_bb := Ne.symm lz1_bb; have lz1_bc : w.heap.size + 2 ≠ w18.heap.size := (by omega); have ly1_bc := Ne.symm lz1_bc; have lz1_qs : gqs ≠ w18.heap.size := (by omega); have ly1_qs := Ne.symm lz1_qs; have lz1_qn : gqn ≠ w18.heap.size := (by omega); have ly1_qn := Ne.symm lz1_qn; have lz1_qm : gqm ≠ w18.heap.size := (by omega); have ly1_qm := Ne.symm lz1_qm; have gl1 : w.heap.size ≤ w18.heap.size := (by have := F18.size; omega); have ku_18a := ku_18.alloc EQ0; have kv_18a := kv_18.alloc EQ0; have kx_18a := kx_18.alloc EQ0; have ky_18a := ky_18.alloc EQ0; have kt_18a := kt_18.alloc EQ0; have a1_18a := a1_18.alloc EQ0; have a2_18a := a2_18.alloc EQ0; have b1_18a := b1_18.alloc EQ0; have b2_18a := b2_18.alloc EQ0; have m1_18a := m1_18.alloc EQ0; have m2_18a := m2_18.alloc EQ0; have x1_18a := x1.alloc EQ0; have ba_18a := ba_18.alloc EQ0; have bb_18a := bb_18.alloc EQ0; have bc_18a := bc_18.alloc EQ0; have qs_18a := qs_18.alloc EQ0; have qn_18a := qn_18.alloc EQ0; have qm_18a := qm_18.alloc EQ0; have z1_18a : Sq ((w18).alloc EQ0) (w18.heap.size) (.bool false) (.slice none 0 0) (.slice none 0 0) := (by (have h_ := Sq.new (w18) (.bool false) (.slice none 0 0) (.slice none 0 0); exact h_)); have F_18a := F18.alloc F18.size EQ0; go_at_call 25; (with_reducible refine (at_e _ _ p' q' Y _ 30 _ rfl HY.out HO.out.2 kx_18a ky_18a p9' q9').mono ?_); rintro e w19 ⟨u19, rfl, y1, b19⟩; have ku_19 := ku_18a.below b19; have kv_19 := kv_18a.below b19; have kx_19 := kx_18a.below b19; have ky_19 := ky_18a.below b19; have kt_19 := kt_18a.below b19; have a1_19 := a1_18a.below b19; have a2_19 := a2_18a.below b19; have b1_19 := b1_18a.below b19; have b2_19 := b2_18a.below b19; have m1_19 := m1_18a.below b19; have m2_19 := m2_18a.below b19; have x1_19 := x1_18a.below b19; have ba_19 := ba_18a.below b19 ba_18a.lt; have bb_19 := bb_18a.below b19 bb_18a.lt; have bc_19 := bc_18a.below b19 bc_18a.lt; have qs_19 := qs_18a.below b19 qs_18a.lt; have qn_19 := qn_18a.below b19 qn_18a.lt; have qm_19 := qm_18a.below b19 qm_18a.lt; have z1_19 := z1_18a.below b19 z1_18a.lt; have zk0_0 := z1_19.cell0; have zf0_0 := z1_19.frozen 0; have zk0_1 := z1_19.cell1; have zf0_1 := z1_19.frozen 1; have zk0_2 := z1_19.cell2; have zf0_2 := z1_19.frozen 2; have F19 := below_then F_18a (Nat.le_refl _) b19; have kl_ba := ba_19.lt; have km_ba := Nat.ne_of_lt ba_19.lt; have kn_ba := Nat.ne_of_gt ba_19.lt; have kc_ba0 := ba_19.cell0; have kc_ba1 := ba_19.cell1; have kc_ba2 := ba_19.cell2; have kc_ba3 := ba_19.cell3; have kc_ba4 := ba_19.cell4; have kc_ba5 := ba_19.cell5; have kl_bb := bb_19.lt; have km_bb := Nat.ne_of_lt bb_19.lt; have kn_bb := Nat.ne_of_gt bb_19.lt; have kc_bb0 := bb_19.cell0; have kc_bb1 := bb_19.cell1; have kc_bb2 := bb_19.cell2; have kc_bb3 := bb_19.cell3; have kc_bb4 := bb_19.cell4; have kc_bb5 := bb_19.cell5; have kl_bc := bc_19.lt; have km_bc := Nat.ne_of_lt bc_19.lt; have kn_bc := Nat.ne_of_gt bc_19.lt; have kc_bc0 := bc_19.cell0; have kc_bc1 := bc_19.cell1; have kc_bc2 := bc_19.cell2; have kl_qs := qs_19.lt; have km_qs := Nat.ne_of_lt qs_19.lt; have kn_qs := Nat.ne_of_gt qs_19.lt; have kc_qs0 := qs_19.cell0; have kc_qs1 := qs_19.cell1; have kc_qs2 := qs_19.cell2; have kc_qs3 := qs_19.cell3; have kc_qs4 := qs_19.cell4; have kc_qs5 := qs_19.cell5; have kl_qn := qn_19.lt; have km_qn := Nat.ne_of_lt qn_19.lt; have kn_qn := Nat.ne_of_gt qn_19.lt; have kc_qn0 := qn_19.cell0; have kc_qn1 := qn_19.cell1; have kc_qn2 := qn_19.cell2; have kc_qn3 := qn_19.cell3; have kc_qn4 := qn_19.cell4; have kc_qn5 := qn_19.cell5; have kl_qm := qm_19.lt; have km_qm := Nat.ne_of_lt qm_19.lt; have kn_qm := Nat.ne_of_gt qm_19.lt; have kc_qm0 := qm_19.cell0; have kc_qm1 := qm_19.cell1; have kc_qm2 := qm_19.cell2; have kc_qm3 := qm_19.cell3; have kc_qm4 := qm_19.cell4; have kc_qm5 := qm_19.cell5; have kl0 := z1_19.lt; have km0 := Nat.ne_of_lt z1_19.lt; have kn0 := Nat.ne_of_gt z1_19.lt)
          | (have qx_ba := ba_18.lt; have qx_bb := bb_18.lt; have qx_bc := bc_18.lt; have qx_qs := qs_18.lt; have qx_qn := qn_18.lt; have qx_qm := qm_18.lt; have lz1_ba : w.heap.size ≠ w18.heap.size := (by omega); have ly1_ba := Ne.symm lz1_ba; have lz1_bb : w.heap.size + 1 ≠ w18.heap.size := (by omega); have ly1_bb := Ne.symm lz1_bb; have lz1_bc : w.heap.size + 2 ≠ w18.heap.size := (by omega); have ly1_bc := Ne.symm lz1_bc; have lz1_qs : gqs ≠ w18.heap.size := (by omega); have ly1_qs := Ne.symm lz1_qs; have lz1_qn : gqn ≠ w18.heap.size := (by omega); have ly1_qn := Ne.symm lz1_qn; have lz1_qm : gqm ≠ w18.heap.size := (by omega); have ly1_qm := Ne.symm lz1_qm; have gl1 : w.heap.size ≤ w18.heap.size := (by have := F18.size; omega); have ku_18a := ku_18.alloc EQ0; have kv_18a := kv_18.alloc EQ0; have kx_18a := kx_18.alloc EQ0; have ky_18a := ky_18.alloc EQ0; have kt_18a := kt_18.alloc EQ0; have a1_18a := a1_18.alloc EQ0; have a2_18a := a2_18.alloc EQ0; have b1_18a := b1_18.alloc EQ0; have b2_18a := b2_18.alloc EQ0; have m1_18a := m1_18.alloc EQ0; have m2_18a := m2_18.alloc EQ0; have x1_18a := x1.alloc EQ0; have ba_18a := ba_18.alloc EQ0; have bb_18a := bb_18.alloc EQ0; have bc_18a := bc_18.alloc EQ0; have qs_18a := qs_18.alloc EQ0; have qn_18a := qn_18.alloc EQ0; have qm_18a := qm_18.alloc EQ0; have z1_18a : Sq ((w18).alloc EQ0) (w18.heap.size) (.bool false) (.slice none 0 0) (.slice none 0 0) := (by (have h_ := Sq.new (w18) (.bool false) (.slice none 0 0) (.slice none 0 0); exact h_)); have F_18a := F18.alloc F18.size EQ0; have lz2_ba : w.heap.size ≠ w18.heap.size + 1 := (by omega); have ly2_ba := Ne.symm lz2_ba; have lz2_bb : w.heap.size + 1 ≠ w18.heap.size + 1 := (by omega); have ly2_bb := Ne.symm lz2_bb; have lz2_bc : w.heap.size + 2 ≠ w18.heap.size + 1 := (by omega); have ly2_bc := Ne.symm lz2_bc; have lz2_qs : gqs ≠ w18.heap.size + 1 := (by omega); have ly2_qs := Ne.symm lz2_qs; have lz2_qn : gqn ≠ w18.heap.size + 1 := (by omega); have ly2_qn := Ne.symm lz2_qn; have lz2_qm : gqm ≠ w18.heap.size + 1 := (by omega); have ly2_qm := Ne.symm lz2_qm; have gl2 : w.heap.size ≤ w18.heap.size + 1 := (by have := F18.size; omega); have lzz1_2 : w18.heap.size ≠ w18.heap.size + 1 := (by omega); have lyy1_2 := Ne.symm lzz1_2; have ku_18b := ku_18a.alloc EQ0; have kv_18b := kv_18a.alloc EQ0; have kx_18b := kx_18a.alloc EQ0; have ky_18b := ky_18a.alloc EQ0; have kt_18b := kt_18a.alloc EQ0; have a1_18b := a1_18a.alloc EQ0; have a2_18b := a2_18a.alloc EQ0; have b1_18b := b1_18a.alloc EQ0; have b2_18b := b2_18a.alloc EQ0; have m1_18b := m1_18a.alloc EQ0; have m2_18b := m2_18a.alloc EQ0; have x1_18b := x1_18a.alloc EQ0; have ba_18b := ba_18a.alloc EQ0; have bb_18b := bb_18a.alloc EQ0; have bc_18b := bc_18a.alloc EQ0; have qs_18b := qs_18a.alloc EQ0; have qn_18b := qn_18a.alloc EQ0; have qm_18b := qm_18a.alloc EQ0; have z1_18b := z1_18a.alloc EQ0; have z2_18b : Sq (((w18).alloc EQ0).alloc EQ0) (w18.heap.size + 1) (.bool false) (.slice none 0 0) (.slice none 0 0) := (by (have h_ := Sq.new ((w18).alloc EQ0) (.bool false) (.slice none 0 0) (.slice none 0 0); simp only [World.size_alloc] at h_; exact h_)); have F_18b := F_18a.alloc F_18a.size EQ0; go_at_call 25; (with_reducible refine (at_e _ _ p' q' Y _ 30 _ rfl HY.out HO.out.2 kx_18b ky_18b p9' q9').mono ?_); rintro e w19 ⟨u19, rfl, y1, b19⟩; have ku_19 := ku_18b.below b19; have kv_19 := kv_18b.below b19; have kx_19 := kx_18b.below b19; have ky_19 := ky_18b.below b19; have kt_19 := kt_18b.below b19; have a1_19 := a1_18b.below b19; have a2_19 := a2_18b.below b19; have b1_19 := b1_18b.below b19; have b2_19 := b2_18b.below b19; have m1_19 := m1_18b.below b19; have m2_19 := m2_18b.below b19; have x1_19 := x1_18b.below b19; have ba_19 := ba_18b.below b19 ba_18b.lt; have bb_19 := bb_18b.below b19 bb_18b.lt; have bc_19 := bc_18b.below b19 bc_18b.lt; have qs_19 := qs_18b.below b19 qs_18b.lt; have qn_19 := qn_18b.below b19 qn_18b.lt; have qm_19 := qm_18b.below b19 qm_18b.lt; have z1_19 := z1_18b.below b19 z1_18b.lt; have z2_19 := z2_18b.below b19 z2_18b.lt; have zk0_0 := z1_19.cell0; have zf0_0 := z1_19.frozen 0; have zk0_1 := z1_19.cell1; have zf0_1 := z1_19.frozen 1; have zk0_2 := z1_19.cell2; have zf0_2 := z1_19.frozen 2; have zk1_0 := z2_19.cell0; have zf1_0 := z2_19.frozen 0; have zk1_1 := z2_19.cell1; have zf1_1 := z2_19.frozen 1; have zk1_2 := z2_19.cell2; have zf1_2 := z2_19.frozen 2; have F19 := below_then F_18b (Nat.le_refl _) b19; have kl_ba := ba_19.lt; have km_ba := Nat.ne_of_lt ba_19.lt; have kn_ba := Nat.ne_of_gt ba_19.lt; have kc_ba0 := ba_19.cell0; have kc_ba1 := ba_19.cell1; have kc_ba2 := ba_19.cell2; have kc_ba3 := ba_19.cell3; have kc_ba4 := ba_19.cell4; have kc_ba5 := ba_19.cell5; have kl_bb := bb_19.lt; have km_bb := Nat.ne_of_lt bb_19.lt; have kn_bb := Nat.ne_of_gt bb_19.lt; have kc_bb0 := bb_19.cell0; have kc_bb1 := bb_19.cell1; have kc_bb2 := bb_19.cell2; have kc_bb3 := bb_19.cell3; have kc_bb4 := bb_19.cell4; have kc_bb5 := bb_19.cell5; have kl_bc := bc_19.lt; have km_bc := Nat.ne_of_lt bc_19.lt; have kn_bc := Nat.ne_of_gt bc_19.lt; have kc_bc0 := bc_19.cell0; have kc_bc1 := bc_19.cell1; have kc_bc2 := bc_19.cell2; have kl_qs := qs_19.lt; have km_qs := Nat.ne_of_lt qs_19.lt; have kn_qs := Nat.ne_of_gt qs_19.lt; have kc_qs0 := qs_19.cell0; have kc_qs1 := qs_19.cell1; have kc_qs2 := qs_19.cell2; have kc_qs3 := qs_19.cell3; have kc_qs4 := qs_19.cell4; have kc_qs5 := qs_19.cell5; have kl_qn := qn_19.lt; have km_qn := Nat.ne_of_lt qn_19.lt; have kn_qn := Nat.ne_of_gt qn_19.lt; have kc_qn0 := qn_19.cell0; have kc_qn1 := qn_19.cell1; have kc_qn2 := qn_19.cell2; have kc_qn3 := qn_19.cell3; have kc_qn4 := qn_19.cell4; have kc_qn5 := qn_19.cell5; have kl_qm := qm_19.lt; have km_qm := Nat.ne_of_lt qm_19.lt; have kn_qm := Nat.ne_of_gt qm_19.lt; have kc_qm0 := qm_19.cell0; have kc_qm1 := qm_19.cell1; have kc_qm2 := qm_19.cell2; have kc_qm3 := qm_19.cell3; have kc_qm4 := qm_19.cell4; have kc_qm5 := qm_19.cell5; have kl0 := z1_19.lt; have km0 := Nat.ne_of_lt z1_19.lt; have kn0 := Nat.ne_of_gt z1_19.lt; have kl1 := z2_19.lt; have km1 := Nat.ne_of_lt z2_19.lt; have kn1 := Nat.ne_of_gt z2_19.lt)
          | fail)
      all_goals (go_wp2_with fail; go_meet; first | with_reducible exact ⟨_, _, _, u18, u19, rfl, rfl, rfl, z1_19.stor.past lzz1_2, (z2_19.past lyy1_2).stor, (by first | exact lz1_ba | exact lz2_ba | (have h9_ := ba_19.lt; omega)), (by first | exact lz1_ba | exact lz2_ba | (have h9_ := ba_19.lt; omega)), (by first | exact lz1_bb | exact lz2_bb | (have h9_ := bb_19.lt; omega)), (by first | exact lz1_bb | exact lz2_bb | (have h9_ := bb_19.lt; omega)), (by first | exact lz1_bc | exact lz2_bc | (have h9_ := bc_19.lt; omega)), (by first | exact lz1_bc | exact lz2_bc | (have h9_ := bc_19.lt; omega)), (by first | exact lz1_qs | exact lz2_qs | (have h9_ := qs_19.lt; omega)), (by first | exact lz1_qs | exact lz2_qs | (have h9_ := qs_19.lt; omega)), (by first | exact lz1_qn | exact lz2_qn | (have h9_ := qn_19.lt; omega)), (by first | exact lz1_qn | exact lz2_qn | (have h9_ := qn_19.lt; omega)), (by first | exact lz1_qm | exact lz2_qm | (have h9_ := qm_19.lt; omega)), (by first | exact lz1_qm | exact lz2_qm | (have h9_ := qm_19.lt; omega)), (ba_19.past3 lz1_ba).past3 lz2_ba, (bb_19.past3 lz1_bb).past3 lz2_bb, (bc_19.past3 lz1_bc).past3 lz2_bc, (qs_19.past3 lz1_qs).past3 lz2_qs, (qn_19.past3 lz1_qn).past3 lz2_qn, (qm_19.past3 lz1_qm).past3 lz2_qm, (ku_19.storQ z1_19 (.bool u18.s) (.slice u18.A u18.n u18.c) (.slice u18.B u18.m u18.d)).storQ (z2_19.past lyy1_2) (.bool u19.s) (.slice u19.A u19.n u19.c) (.slice u19.B u19.m u19.d), (kv_19.storQ z1_19 (.bool u18.s) (.slice u18.A u18.n u18.c) (.slice u18.B u18.m u18.d)).storQ (z2_19.past lyy1_2) (.bool u19.s) (.slice u19.A u19.n u19.c) (.slice u19.B u19.m u19.d), (kx_19.storQ z1_19 (.bool u18.s) (.slice u18.A u18.n u18.c) (.slice u18.B u18.m u18.d)).storQ (z2_19.past lyy1_2) (.bool u19.s) (.slice u19.A u19.n u19.c) (.slice u19.B u19.m u19.d), (ky_19.storQ z1_19 (.bool u18.s) (.slice u18.A u18.n u18.c) (.slice u18.B u18.m u18.d)).storQ (z2_19.past lyy1_2) (.bool u19.s) (.slice u19.A u19.n u19.c) (.slice u19.B u19.m u19.d), (kt_19.storQ z1_19 (.bool u18.s) (.slice u18.A u18.n u18.c) (.slice u18.B u18.m u18.d)).storQ (z2_19.past lyy1_2) (.bool u19.s) (.slice u19.A u19.n u19.c) (.slice u19.B u19.m u19.d), (a1_19.storQ z1_19 (.bool u18.s) (.slice u18.A u18.n u18.c) (.slice u18.B u18.m u18.d)).storQ (z2_19.past lyy1_2) (.bool u19.s) (.slice u19.A u19.n u19.c) (.slice u19.B u19.m u19.d), (a2_19.storQ z1_19 (.bool u18.s) (.slice u18.A u18.n u18.c) (.slice u18.B u18.m u18.d)).storQ (z2_19.past lyy1_2) (.bool u19.s) (.slice u19.A u19.n u19.c) (.slice u19.B u19.m u19.d), (b1_19.storQ z1_19 (.bool u18.s) (.slice u18.A u18.n u18.c) (.slice u18.B u18.m u18.d)).storQ (z2_19.past lyy1_2) (.bool u19.s) (.slice u19.A u19.n u19.c) (.slice u19.B u19.m u19.d), (b2_19.storQ z1_19 (.bool u18.s) (.slice u18.A u18.n u18.c) (.slice u18.B u18.m u18.d)).storQ (z2_19.past lyy1_2) (.bool u19.s) (.slice u19.A u19.n u19.c) (.slice u19.B u19.m u19.d), (m1_19.storQ z1_19 (.bool u18.s) (.slice u18.A u18.n u18.c) (.slice u18.B u18.m u18.d)).storQ (z2_19.past lyy1_2) (.bool u19.s) (.slice u19.A u19.n u19.c) (.slice u19.B u19.m u19.d), (m2_19.storQ z1_19 (.bool u18.s) (.slice u18.A u18.n u18.c) (.slice u18.B u18.m u18.d)).storQ (z2_19.past lyy1_2) (.bool u19.s) (.slice u19.A u19.n u19.c) (.slice u19.B u19.m u19.d), (x1_19.storQ z1_19 (.bool u18.s) (.slice u18.A u18.n u18.c) (.slice u18.B u18.m u18.d)).storQ (z2_19.past lyy1_2) (.bool u19.s) (.slice u19.A u19.n u19.c) (.slice u19.B u19.m u19.d), (y1.storQ z1_19 (.bool u18.s) (.slice u18.A u18.n u18.c) (.slice u18.B u18.m u18.d)).storQ (z2_19.past lyy1_2) (.bool u19.s) (.slice u19.A u19.n u19.c) (.slice u19.B u19.m u19.d), below_storQ (below_storQ F19 gl1) gl2⟩ | with_reducible exact ⟨_, _, _, u18, u19, rfl, rfl, rfl, (z1_19.past lzz1_2).stor, z2_19.stor.past lyy1_2, (by first | exact lz1_ba | exact lz2_ba | (have h9_ := ba_19.lt; omega)), (by first | exact lz1_ba | exact lz2_ba | (have h9_ := ba_19.lt; omega)), (by first | exact lz1_bb | exact lz2_bb | (have h9_ := bb_19.lt; omega)), (by first | exact lz1_bb | exact lz2_bb | (have h9_ := bb_19.lt; omega)), (by first | exact lz1_bc | exact lz2_bc | (have h9_ := bc_19.lt; omega)), (by first | exact lz1_bc | exact lz2_bc | (have h9_ := bc_19.lt; omega)), (by first | exact lz1_qs | exact lz2_qs | (have h9_ := qs_19.lt; omega)), (by first | exact lz1_qs | exact lz2_qs | (have h9_ := qs_19.lt; omega)), (by first | exact lz1_qn | exact lz2_qn | (have h9_ := qn_19.lt; omega)), (by first | exact lz1_qn | exact lz2_qn | (have h9_ := qn_19.lt; omega)), (by first | exact lz1_qm | exact lz2_qm | (have h9_ := qm_19.lt; omega)), (by first | exact lz1_qm | exact lz2_qm | (have h9_ := qm_19.lt; omega)), (ba_19.past3 lz2_ba).past3 lz1_ba, (bb_19.past3 lz2_bb).past3 lz1_bb, (bc_19.past3 lz2_bc).past3 lz1_bc, (qs_19.past3 lz2_qs).past3 lz1_qs, (qn_19.past3 lz2_qn).past3 lz1_qn, (qm_19.past3 lz2_qm).past3 lz1_qm, (ku_19.storQ z2_19 (.bool u19.s) (.slice u19.A u19.n u19.c) (.slice u19.B u19.m u19.d)).storQ (z1_19.past lzz1_2) (.bool u18.s) (.slice u18.A u18.n u18.c) (.slice u18.B u18.m u18.d), (kv_19.storQ z2_19 (.bool u19.s) (.slice u19.A u19.n u19.c) (.slice u19.B u19.m u19.d)).storQ (z1_19.past lzz1_2) (.bool u18.s) (.slice u18.A u18.n u18.c) (.slice u18.B u18.m u18.d), (kx_19.storQ z2_19 (.bool u19.s) (.slice u19.A u19.n u19.c) (.slice u19.B u19.m u19.d)).storQ (z1_19.past lzz1_2) (.bool u18.s) (.slice u18.A u18.n u18.c) (.slice u18.B u18.m u18.d), (ky_19.storQ z2_19 (.bool u19.s) (.slice u19.A u19.n u19.c) (.slice u19.B u19.m u19.d)).storQ (z1_19.past lzz1_2) (.bool u18.s) (.slice u18.A u18.n u18.c) (.slice u18.B u18.m u18.d), (kt_19.storQ z2_19 (.bool u19.s) (.slice u19.A u19.n u19.c) (.slice u19.B u19.m u19.d)).storQ (z1_19.past lzz1_2) (.bool u18.s) (.slice u18.A u18.n u18.c) (.slice u18.B u18.m u18.d), (a1_19.storQ z2_19 (.bool u19.s) (.slice u19.A u19.n u19.c) (.slice u19.B u19.m u19.d)).storQ (z1_19.past lzz1_2) (.bool u18.s) (.slice u18.A u18.n u18.c) (.slice u18.B u18.m u18.d), (a2_19.storQ z2_19 (.bool u19.s) (.slice u19.A u19.n u19.c) (.slice u19.B u19.m u19.d)).storQ (z1_19.past lzz1_2) (.bool u18.s) (.slice u18.A u18.n u18.c) (.slice u18.B u18.m u18.d), (b1_19.storQ z2_19 (.bool u19.s) (.slice u19.A u19.n u19.c) (.slice u19.B u19.m u19.d)).storQ (z1_19.past lzz1_2) (.bool u18.s) (.slice u18.A u18.n u18.c) (.slice u18.B u18.m u18.d), (b2_19.storQ z2_19 (.bool u19.s) (.slice u19.A u19.n u19.c) (.slice u19.B u19.m u19.d)).storQ (z1_19.past lzz1_2) (.bool u18.s) (.slice u18.A u18.n u18.c) (.slice u18.B u18.m u18.d), (m1_19.storQ z2_19 (.bool u19.s) (.slice u19.A u19.n u19.c) (.slice u19.B u19.m u19.d)).storQ (z1_19.past lzz1_2) (.bool u18.s) (.slice u18.A u18.n u18.c) (.slice u18.B u18.m u18.d), (m2_19.storQ z2_19 (.bool u19.s) (.slice u19.A u19.n u19.c) (.slice u19.B u19.m u19.d)).storQ (z1_19.past lzz1_2) (.bool u18.s) (.slice u18.A u18.n u18.c) (.slice u18.B u18.m u18.d), (x1_19.storQ z2_19 (.bool u19.s) (.slice u19.A u19.n u19.c) (.slice u19.B u19.m u19.d)).storQ (z1_19.past lzz1_2) (.bool u18.s) (.slice u18.A u18.n u18.c) (.slice u18.B u18.m u18.d), (y1.storQ z2_19 (.bool u19.s) (.slice u19.A u19.n u19.c) (.slice u19.B u19.m u19.d)).storQ (z1_19.past lzz1_2) (.bool u18.s) (.slice u18.A u18.n u18.c) (.slice u18.B u18.m u18.d), below_storQ (below_storQ F19 gl2) gl1⟩ | with_reducible exact ⟨_, _, _, u18, u19, rfl, rfl, rfl, z2_19.stor.past lyy1_2, (z1_19.past lzz1_2).stor, (by first | exact lz1_ba | exact lz2_ba | (have h9_ := ba_19.lt; omega)), (by first | exact lz1_ba | exact lz2_ba | (have h9_ := ba_19.lt; omega)), (by first | exact lz1_bb | exact lz2_bb | (have h9_ := bb_19.lt; omega)), (by first | exact lz1_bb | exact lz2_bb | (have h9_ := bb_19.lt; omega)), (by first | exact lz1_bc | exact lz2_bc | (have h9_ := bc_19.lt; omega)), (by first | exact lz1_bc | exact lz2_bc | (have h9_ := bc_19.lt; omega)), (by first | exact lz1_qs | exact lz2_qs | (have h9_ := qs_19.lt; omega)), (by first | exact lz1_qs | exact lz2_qs | (have h9_ := qs_19.lt; omega)), (by first | exact lz1_qn | exact lz2_qn | (have h9_ := qn_19.lt; omega)), (by first | exact lz1_qn | exact lz2_qn | (have h9_ := qn_19.lt; omega)), (by first | exact lz1_qm | exact lz2_qm | (have h9_ := qm_19.lt; omega)), (by first | exact lz1_qm | exact lz2_qm | (have h9_ := qm_19.lt; omega)), (ba_19.past3 lz2_ba).past3 lz1_ba, (bb_19.past3 lz2_bb).past3 lz1_bb, (bc_19.past3 lz2_bc).past3 lz1_bc, (qs_19.past3 lz2_qs).past3 lz1_qs, (qn_19.past3 lz2_qn).past3 lz1_qn, (qm_19.past3 lz2_qm).past3 lz1_qm, (ku_19.storQ z2_19 (.bool u18.s) (.slice u18.A u18.n u18.c) (.slice u18.B u18.m u18.d)).storQ (z1_19.past lzz1_2) (.bool u19.s) (.slice u19.A u19.n u19.c) (.slice u19.B u19.m u19.d), (kv_19.storQ z2_19 (.bool u18.s) (.slice u18.A u18.n u18.c) (.slice u18.B u18.m u18.d)).storQ (z1_19.past lzz1_2) (.bool u19.s) (.slice u19.A u19.n u19.c) (.slice u19.B u19.m u19.d), (kx_19.storQ z2_19 (.bool u18.s) (.slice u18.A u18.n u18.c) (.slice u18.B u18.m u18.d)).storQ (z1_19.past lzz1_2) (.bool u19.s) (.slice u19.A u19.n u19.c) (.slice u19.B u19.m u19.d), (ky_19.storQ z2_19 (.bool u18.s) (.slice u18.A u18.n u18.c) (.slice u18.B u18.m u18.d)).storQ (z1_19.past lzz1_2) (.bool u19.s) (.slice u19.A u19.n u19.c) (.slice u19.B u19.m u19.d), (kt_19.storQ z2_19 (.bool u18.s) (.slice u18.A u18.n u18.c) (.slice u18.B u18.m u18.d)).storQ (z1_19.past lzz1_2) (.bool u19.s) (.slice u19.A u19.n u19.c) (.slice u19.B u19.m u19.d), (a1_19.storQ z2_19 (.bool u18.s) (.slice u18.A u18.n u18.c) (.slice u18.B u18.m u18.d)).storQ (z1_19.past lzz1_2) (.bool u19.s) (.slice u19.A u19.n u19.c) (.slice u19.B u19.m u19.d), (a2_19.storQ z2_19 (.bool u18.s) (.slice u18.A u18.n u18.c) (.slice u18.B u18.m u18.d)).storQ (z1_19.past lzz1_2) (.bool u19.s) (.slice u19.A u19.n u19.c) (.slice u19.B u19.m u19.d), (b1_19.storQ z2_19 (.bool u18.s) (.slice u18.A u18.n u18.c) (.slice u18.B u18.m u18.d)).storQ (z1_19.past lzz1_2) (.bool u19.s) (.slice u19.A u19.n u19.c) (.slice u19.B u19.m u19.d), (b2_19.storQ z2_19 (.bool u18.s) (.slice u18.A u18.n u18.c) (.slice u18.B u18.m u18.d)).storQ (z1_19.past lzz1_2) (.bool u19.s) (.slice u19.A u19.n u19.c) (.slice u19.B u19.m u19.d), (m1_19.storQ z2_19 (.bool u18.s) (.slice u18.A u18.n u18.c) (.slice u18.B u18.m u18.d)).storQ (z1_19.past lzz1_2) (.bool u19.s) (.slice u19.A u19.n u19.c) (.slice u19.B u19.m u19.d), (m2_19.storQ z2_19 (.bool u18.s) (.slice u18.A u18.n u18.c) (.slice u18.B u18.m u18.d)).storQ (z1_19.past lzz1_2) (.bool u19.s) (.slice u19.A u19.n u19.c) (.slice u19.B u19.m u19.d), (x1_19.storQ z2_19 (.bool u18.s) (.slice u18.A u18.n u18.c) (.slice u18.B u18.m u18.d)).storQ (z1_19.past lzz1_2) (.bool u19.s) (.slice u19.A u19.n u19.c) (.slice u19.B u19.m u19.d), (y1.storQ z2_19 (.bool u18.s) (.slice u18.A u18.n u18.c) (.slice u18.B u18.m u18.d)).storQ (z1_19.past lzz1_2) (.bool u19.s) (.slice u19.A u19.n u19.c) (.slice u19.B u19.m u19.d), below_storQ (below_storQ F19 gl2) gl1⟩ | with_reducible exact ⟨_, _, _, u18, u19, rfl, rfl, rfl, (z2_19.past lyy1_2).stor, z1_19.stor.past lzz1_2, (by first | exact lz1_ba | exact lz2_ba | (have h9_ := ba_19.lt; omega)), (by first | exact lz1_ba | exact lz2_ba | (have h9_ := ba_19.lt; omega)), (by first | exact lz1_bb | exact lz2_bb | (have h9_ := bb_19.lt; omega)), (by first | exact lz1_bb | exact lz2_bb | (have h9_ := bb_19.lt; omega)), (by first | exact lz1_bc | exact lz2_bc | (have h9_ := bc_19.lt; omega)), (by first | exact lz1_bc | exact lz2_bc | (have h9_ := bc_19.lt; omega)), (by first | exact lz1_qs | exact lz2_qs | (have h9_ := qs_19.lt; omega)), (by first | exact lz1_qs | exact lz2_qs | (have h9_ := qs_19.lt; omega)), (by first | exact lz1_qn | exact lz2_qn | (have h9_ := qn_19.lt; omega)), (by first | exact lz1_qn | exact lz2_qn | (have h9_ := qn_19.lt; omega)), (by first | exact lz1_qm | exact lz2_qm | (have h9_ := qm_19.lt; omega)), (by first | exact lz1_qm | exact lz2_qm | (have h9_ := qm_19.lt; omega)), (ba_19.past3 lz1_ba).past3 lz2_ba, (bb_19.past3 lz1_bb).past3 lz2_bb, (bc_19.past3 lz1_bc).past3 lz2_bc, (qs_19.past3 lz1_qs).past3 lz2_qs, (qn_19.past3 lz1_qn).past3 lz2_qn, (qm_19.past3 lz1_qm).past3 lz2_qm, (ku_19.storQ z1_19 (.bool u19.s) (.slice u19.A u19.n u19.c) (.slice u19.B u19.m u19.d)).storQ (z2_19.past lyy1_2) (.bool u18.s) (.slice u18.A u18.n u18.c) (.slice u18.B u18.m u18.d), (kv_19.storQ z1_19 (.bool u19.s) (.slice u19.A u19.n u19.c) (.slice u19.B u19.m u19.d)).storQ (z2_19.past lyy1_2) (.bool u18.s) (.slice u18.A u18.n u18.c) (.slice u18.B u18.m u18.d), (kx_19.storQ z1_19 (.bool u19.s) (.slice u19.A u19.n u19.c) (.slice u19.B u19.m u19.d)).storQ (z2_19.past lyy1_2) (.bool u18.s) (.slice u18.A u18.n u18.c) (.slice u18.B u18.m u18.d), (ky_19.storQ z1_19 (.bool u19.s) (.slice u19.A u19.n u19.c) (.slice u19.B u19.m u19.d)).storQ (z2_19.past lyy1_2) (.bool u18.s) (.slice u18.A u18.n u18.c) (.slice u18.B u18.m u18.d), (kt_19.storQ z1_19 (.bool u19.s) (.slice u19.A u19.n u19.c) (.slice u19.B u19.m u19.d)).storQ (z2_19.past lyy1_2) (.bool u18.s) (.slice u18.A u18.n u18.c) (.slice u18.B u18.m u18.d), (a1_19.storQ z1_19 (.bool u19.s) (.slice u19.A u19.n u19.c) (.slice u19.B u19.m u19.d)).storQ (z2_19.past lyy1_2) (.bool u18.s) (.slice u18.A u18.n u18.c) (.slice u18.B u18.m u18.d), (a2_19.storQ z1_19 (.bool u19.s) (.slice u19.A u19.n u19.c) (.slice u19.B u19.m u19.d)).storQ (z2_19.past lyy1_2) (.bool u18.s) (.slice u18.A u18.n u18.c) (.slice u18.B u18.m u18.d), (b1_19.storQ z1_19 (.bool u19.s) (.slice u19.A u19.n u19.c) (.slice u19.B u19.m u19.d)).storQ (z2_19.past lyy1_2) (.bool u18.s) (.slice u18.A u18.n u18.c) (.slice u18.B u18.m u18.d), (b2_19.storQ z1_19 (.bool u19.s) (.slice u19.A u19.n u19.c) (.slice u19.B u19.m u19.d)).storQ (z2_19.past lyy1_2) (.bool u18.s) (.slice u18.A u18.n u18.c) (.slice u18.B u18.m u18.d), (m1_19.storQ z1_19 (.bool u19.s) (.slice u19.A u19.n u19.c) (.slice u19.B u19.m u19.d)).storQ (z2_19.past lyy1_2) (.bool u18.s) (.slice u18.A u18.n u18.c) (.slice u18.B u18.m u18.d), (m2_19.storQ z1_19 (.bool u19.s) (.slice u19.A u19.n u19.c) (.slice u19.B u19.m u19.d)).storQ (z2_19.past lyy1_2) (.bool u18.s) (.slice u18.A u18.n u18.c) (.slice u18.B u18.m u18.d), (x1_19.storQ z1_19 (.bool u19.s) (.slice u19.A u19.n u19.c) (.slice u19.B u19.m u19.d)).storQ (z2_19.past lyy1_2) (.bool u18.s) (.slice u18.A u18.n u18.c) (.slice u18.B u18.m u18.d), (y1.storQ z1_19 (.bool u19.s) (.slice u19.A u19.n u19.c) (.slice u19.B u19.m u19.d)).storQ (z2_19.past lyy1_2) (.bool u18.s) (.slice u18.A u18.n u18.c) (.slice u18.B u18.m u18.d), below_storQ (below_storQ F19 gl1) gl2⟩ | with_reducible exact ⟨_, _, _, u18, u19, rfl, rfl, rfl, (z1_19.stor).alloc _, Sq_at (Sq.new _ _ _ _) (by simp [World.setCell]), (by first | exact lz1_ba | exact lz2_ba | (have h9_ := ba_19.lt; omega)), (by first | exact lz1_ba | exact lz2_ba | (have h9_ := ba_19.lt; omega)), (by first | exact lz1_bb | exact lz2_bb | (have h9_ := bb_19.lt; omega)), (by first | exact lz1_bb | exact lz2_bb | (have h9_ := bb_19.lt; omega)), (by first | exact lz1_bc | exact lz2_bc | (have h9_ := bc_19.lt; omega)), (by first | exact lz1_bc | exact lz2_bc | (have h9_ := bc_19.lt; omega)), (by first | exact lz1_qs | exact lz2_qs | (have h9_ := qs_19.lt; omega)), (by first | exact lz1_qs | exact lz2_qs | (have h9_ := qs_19.lt; omega)), (by first | exact lz1_qn | exact lz2_qn | (have h9_ := qn_19.lt; omega)), (by first | exact lz1_qn | exact lz2_qn | (have h9_ := qn_19.lt; omega)), (by first | exact lz1_qm | exact lz2_qm | (have h9_ := qm_19.lt; omega)), (by first | exact lz1_qm | exact lz2_qm | (have h9_ := qm_19.lt; omega)), (ba_19.past3 lz1_ba).alloc _, (bb_19.past3 lz1_bb).alloc _, (bc_19.past3 lz1_bc).alloc _, (qs_19.past3 lz1_qs).alloc _, (qn_19.past3 lz1_qn).alloc _, (qm_19.past3 lz1_qm).alloc _, (ku_19.storQ z1_19 (.bool u18.s) (.slice u18.A u18.n u18.c) (.slice u18.B u18.m u18.d)).alloc _, (kv_19.storQ z1_19 (.bool u18.s) (.slice u18.A u18.n u18.c) (.slice u18.B u18.m u18.d)).alloc _, (kx_19.storQ z1_19 (.bool u18.s) (.slice u18.A u18.n u18.c) (.slice u18.B u18.m u18.d)).alloc _, (ky_19.storQ z1_19 (.bool u18.s) (.slice u18.A u18.n u18.c) (.slice u18.B u18.m u18.d)).alloc _, (kt_19.storQ z1_19 (.bool u18.s) (.slice u18.A u18.n u18.c) (.slice u18.B u18.m u18.d)).alloc _, (a1_19.storQ z1_19 (.bool u18.s) (.slice u18.A u18.n u18.c) (.slice u18.B u18.m u18.d)).alloc _, (a2_19.storQ z1_19 (.bool u18.s) (.slice u18.A u18.n u18.c) (.slice u18.B u18.m u18.d)).alloc _, (b1_19.storQ z1_19 (.bool u18.s) (.slice u18.A u18.n u18.c) (.slice u18.B u18.m u18.d)).alloc _, (b2_19.storQ z1_19 (.bool u18.s) (.slice u18.A u18.n u18.c) (.slice u18.B u18.m u18.d)).alloc _, (m1_19.storQ z1_19 (.bool u18.s) (.slice u18.A u18.n u18.c) (.slice u18.B u18.m u18.d)).alloc _, (m2_19.storQ z1_19 (.bool u18.s) (.slice u18.A u18.n u18.c) (.slice u18.B u18.m u18.d)).alloc _, (x1_19.storQ z1_19 (.bool u18.s) (.slice u18.A u18.n u18.c) (.slice u18.B u18.m u18.d)).alloc _, (y1.storQ z1_19 (.bool u18.s) (.slice u18.A u18.n u18.c) (.slice u18.B u18.m u18.d)).alloc _, (below_storQ F19 gl1).alloc (below_storQ F19 gl1).size _⟩ | with_reducible exact ⟨_, _, _, u18, u19, rfl, rfl, rfl, Sq_at (Sq.new _ _ _ _) (by simp [World.setCell]), (z1_19.stor).alloc _, (by first | exact lz1_ba | exact lz2_ba | (have h9_ := ba_19.lt; omega)), (by first | exact lz1_ba | exact lz2_ba | (have h9_ := ba_19.lt; omega)), (by first | exact lz1_bb | exact lz2_bb | (have h9_ := bb_19.lt; omega)), (by first | exact lz1_bb | exact lz2_bb | (have h9_ := bb_19.lt; omega)), (by first | exact lz1_bc | exact lz2_bc | (have h9_ := bc_19.lt; omega)), (by first | exact lz1_bc | exact lz2_bc | (have h9_ := bc_19.lt; omega)), (by first | exact lz1_qs | exact lz2_qs | (have h9_ := qs_19.lt; omega)), (by first | exact lz1_qs | exact lz2_qs | (have h9_ := qs_19.lt; omega)), (by first | exact lz1_qn | exact lz2_qn | (have h9_ := qn_19.lt; omega)), (by first | exact lz1_qn | exact lz2_qn | (have h9_ := qn_19.lt; omega)), (by first | exact lz1_qm | exact lz2_qm | (have h9_ := qm_19.lt; omega)), (by first | exact lz1_qm | exact lz2_qm | (have h9_ := qm_19.lt; omega)), (ba_19.past3 lz1_ba).alloc _, (bb_19.past3 lz1_bb).alloc _, (bc_19.past3 lz1_bc).alloc _, (qs_19.past3 lz1_qs).alloc _, (qn_19.past3 lz1_qn).alloc _, (qm_19.past3 lz1_qm).alloc _, (ku_19.storQ z1_19 (.bool u19.s) (.slice u19.A u19.n u19.c) (.slice u19.B u19.m u19.d)).alloc _, (kv_19.storQ z1_19 (.bool u19.s) (.slice u19.A u19.n u19.c) (.slice u19.B u19.m u19.d)).alloc _, (kx_19.storQ z1_19 (.bool u19.s) (.slice u19.A u19.n u19.c) (.slice u19.B u19.m u19.d)).alloc _, (ky_19.storQ z1_19 (.bool u19.s) (.slice u19.A u19.n u19.c) (.slice u19.B u19.m u19.d)).alloc _, (kt_19.storQ z1_19 (.bool u19.s) (.slice u19.A u19.n u19.c) (.slice u19.B u19.m u19.d)).alloc _, (a1_19.storQ z1_19 (.bool u19.s) (.slice u19.A u19.n u19.c) (.slice u19.B u19.m u19.d)).alloc _, (a2_19.storQ z1_19 (.bool u19.s) (.slice u19.A u19.n u19.c) (.slice u19.B u19.m u19.d)).alloc _, (b1_19.storQ z1_19 (.bool u19.s) (.slice u19.A u19.n u19.c) (.slice u19.B u19.m u19.d)).alloc _, (b2_19.storQ z1_19 (.bool u19.s) (.slice u19.A u19.n u19.c) (.slice u19.B u19.m u19.d)).alloc _, (m1_19.storQ z1_19 (.bool u19.s) (.slice u19.A u19.n u19.c) (.slice u19.B u19.m u19.d)).alloc _, (m2_19.storQ z1_19 (.bool u19.s) (.slice u19.A u19.n u19.c) (.slice u19.B u19.m u19.d)).alloc _, (x1_19.storQ z1_19 (.bool u19.s) (.slice u19.A u19.n u19.c) (.slice u19.B u19.m u19.d)).alloc _, (y1.storQ z1_19 (.bool u19.s) (.slice u19.A u19.n u19.c) (.slice u19.B u19.m u19.d)).alloc _, (below_storQ F19 gl1).alloc (below_storQ F19 gl1).size _⟩ | with_reducible exact ⟨_, _, _, u18, u19, rfl, rfl, rfl, (Sq.new _ _ _ _).alloc _, Sq_at (Sq.new _ _ _ _) (by simp), (by first | exact lz1_ba | exact lz2_ba | (have h9_ := ba_19.lt; omega)), (by first | exact lz1_ba | exact lz2_ba | (have h9_ := ba_19.lt; omega)), (by first | exact lz1_bb | exact lz2_bb | (have h9_ := bb_19.lt; omega)), (by first | exact lz1_bb | exact lz2_bb | (have h9_ := bb_19.lt; omega)), (by first | exact lz1_bc | exact lz2_bc | (have h9_ := bc_19.lt; omega)), (by first | exact lz1_bc | exact lz2_bc | (have h9_ := bc_19.lt; omega)), (by first | exact lz1_qs | exact lz2_qs | (have h9_ := qs_19.lt; omega)), (by first | exact lz1_qs | exact lz2_qs | (have h9_ := qs_19.lt; omega)), (by first | exact lz1_qn | exact lz2_qn | (have h9_ := qn_19.lt; omega)), (by first | exact lz1_qn | exact lz2_qn | (have h9_ := qn_19.lt; omega)), (by first | exact lz1_qm | exact lz2_qm | (have h9_ := qm_19.lt; omega)), (by first | exact lz1_qm | exact lz2_qm | (have h9_ := qm_19.lt; omega)), (ba_19.alloc _).alloc _, (bb_19.alloc _).alloc _, (bc_19.alloc _).alloc _, (qs_19.alloc _).alloc _, (qn_19.alloc _).alloc _, (qm_19.alloc _).alloc _, (ku_19.alloc _).alloc _, (kv_19.alloc _).alloc _, (kx_19.alloc _).alloc _, (ky_19.alloc _).alloc _, (kt_19.alloc _).alloc _, (a1_19.alloc _).alloc _, (a2_19.alloc _).alloc _, (b1_19.alloc _).alloc _, (b2_19.alloc _).alloc _, (m1_19.alloc _).alloc _, (m2_19.alloc _).alloc _, (x1_19.alloc _).alloc _, (y1.alloc _).alloc _, (F19.alloc F19.size _).alloc (F19.alloc F19.size _).size _⟩ | with_reducible exact ⟨_, _, _, u18, u19, rfl, rfl, rfl, Sq_at (Sq.new _ _ _ _) (by simp), (Sq.new _ _ _ _).alloc _, (by first | exact lz1_ba | exact lz2_ba | (have h9_ := ba_19.lt; omega)), (by first | exact lz1_ba | exact lz2_ba | (have h9_ := ba_19.lt; omega)), (by first | exact lz1_bb | exact lz2_bb | (have h9_ := bb_19.lt; omega)), (by first | exact lz1_bb | exact lz2_bb | (have h9_ := bb_19.lt; omega)), (by first | exact lz1_bc | exact lz2_bc | (have h9_ := bc_19.lt; omega)), (by first | exact lz1_bc | exact lz2_bc | (have h9_ := bc_19.lt; omega)), (by first | exact lz1_qs | exact lz2_qs | (have h9_ := qs_19.lt; omega)), (by first | exact lz1_qs | exact lz2_qs | (have h9_ := qs_19.lt; omega)), (by first | exact lz1_qn | exact lz2_qn | (have h9_ := qn_19.lt; omega)), (by first | exact lz1_qn | exact lz2_qn | (have h9_ := qn_19.lt; omega)), (by first | exact lz1_qm | exact lz2_qm | (have h9_ := qm_19.lt; omega)), (by first | exact lz1_qm | exact lz2_qm | (have h9_ := qm_19.lt; omega)), (ba_19.alloc _).alloc _, (bb_19.alloc _).alloc _, (bc_19.alloc _).alloc _, (qs_19.alloc _).alloc _, (qn_19.alloc _).alloc _, (qm_19.alloc _).alloc _, (ku_19.alloc _).alloc _, (kv_19.alloc _).alloc _, (kx_19.alloc _).alloc _, (ky_19.alloc _).alloc _, (kt_19.alloc _).alloc _, (a1_19.alloc _).alloc _, (a2_19.alloc _).alloc _, (b1_19.alloc _).alloc _, (b2_19.alloc _).alloc _, (m1_19.alloc _).alloc _, (m2_19.alloc _).alloc _, (x1_19.alloc _).alloc _, (y1.alloc _).alloc _, (F19.alloc F19.size _).alloc (F19.alloc F19.size _).size _⟩ | fail)
    case rest =>
      obtain ⟨Wpx, gpx, gpy, pxu, pyu, rfl, rfl, rfl, hgpx0, hgpy0, nx20_ba, ny20_ba, nx20_bb, ny20_bb, nx20_bc, ny20_bc, nx20_qs, ny20_qs, nx20_qn, ny20_qn, nx20_qm, ny20_qm, ba_20, bb_20, bc_20, qs_20, qn_20, qm_20, ku_20, kv_20, kx_20, ky_20, kt_20, a1_20, a2_20, b1_20, b2_20, m1_20, m2_20, x1_20, y1_20, F20⟩ := hcut
      have hgpx : Su Wpx gpx pxu := hgpx0
      have hgpy : Su Wpx gpy pyu := hgpy0
      clear hgpx0 hgpy0
      have ba_u20 := ba_20.cell0
      have ba_v20 := ba_20.cell1
      have ba_w20 := ba_20.cell2
      have ba_x20 := ba_20.cell3
      have ba_y20 := ba_20.cell4
      have ba_z20 := ba_20.cell5
      have bb_u20 := bb_20.cell0
      have bb_v20 := bb_20.cell1
      have bb_w20 := bb_20.cell2
      have bb_x20 := bb_20.cell3
      have bb_y20 := bb_20.cell4
      have bb_z20 := bb_20.cell5
      have bc_u20 := bc_20.cell0
      have bc_v20 := bc_20.cell1
      have bc_w20 := bc_20.cell2
      have qs_u20 := qs_20.cell0
      have qs_v20 := qs_20.cell1
      have qs_w20 := qs_20.cell2
      have qs_x20 := qs_20.cell3
      have qs_y20 := qs_20.cell4
      have qs_z20 := qs_20.cell5
      have qn_u20 := qn_20.cell0
      have qn_v20 := qn_20.cell1
      have qn_w20 := qn_20.cell2
      have qn_x20 := qn_20.cell3
      have qn_y20 := qn_20.cell4
      have qn_z20 := qn_20.cell5
      have qm_u20 := qm_20.cell0
      have qm_v20 := qm_20.cell1
      have qm_w20 := qm_20.cell2
      have qm_x20 := qm_20.cell3
      have qm_y20 := qm_20.cell4
      have qm_z20 := qm_20.cell5
      have px_u20 := hgpx.cell0
      have px_v20 := hgpx.cell1
      have px_w20 := hgpx.cell2
      have py_u20 := hgpy.cell0
      have py_v20 := hgpy.cell1
      have py_w20 := hgpy.cell2
      go_wp2_with fail
      have kt_21 := kt_20.drew
      have a1_21 := a1_20.drew
      have a2_21 := a2_20.drew
      have b1_21 := b1_20.drew
      have b2_21 := b2_20.drew
      have m1_21 := m1_20.drew
      have m2_21 := m2_20.drew
      have x1_21 := x1_20.drew
      have y1_21 := y1_20.drew
      have bc_21 := bc_20.drew
      have qs_21 := qs_20.drew
      have qn_21 := qn_20.drew
      have qm_21 := qm_20.drew
      have px_21 := hgpx.drew
      have py_21 := hgpy.drew
      have F21 := F20.drew
      go_region_held3 (fun w' => w'.cell? ⟨w.heap.size + 2, 0, none⟩ = some (.bool t.s) ∧ w'.cell? ⟨w.heap.size + 2, 1, none⟩ = some (.slice t.A t.n t.c) ∧ w'.cell? ⟨w.heap.size + 2, 2, none⟩ = some (.slice t.B t.m t.d) ∧ w'.cell? ⟨gqs, 0, none⟩ = some (.bool qsu.s) ∧ w'.cell? ⟨gqs, 1, none⟩ = some (.slice qsu.A qsu.n qsu.c) ∧ w'.cell? ⟨gqs, 2, none⟩ = some (.slice qsu.B qsu.m qsu.d) ∧ w'.cell? ⟨gqs, 3, none⟩ = some (.bool qsv.s) ∧ w'.cell? ⟨gqs, 4, none⟩ = some (.slice qsv.A qsv.n qsv.c) ∧ w'.cell? ⟨gqs, 5, none⟩ = some (.slice qsv.B qsv.m qsv.d) ∧ w'.cell? ⟨gqn, 0, none⟩ = some (.bool qnu.s) ∧ w'.cell? ⟨gqn, 1, none⟩ = some (.slice qnu.A qnu.n qnu.c) ∧ w'.cell? ⟨gqn, 2, none⟩ = some (.slice qnu.B qnu.m qnu.d) ∧ w'.cell? ⟨gqn, 3, none⟩ = some (.bool qnv.s) ∧ w'.cell? ⟨gqn, 4, none⟩ = some (.slice qnv.A qnv.n qnv.c) ∧ w'.cell? ⟨gqn, 5, none⟩ = some (.slice qnv.B qnv.m qnv.d) ∧ w'.cell? ⟨gqm, 0, none⟩ = some (.bool qmu.s) ∧ w'.cell? ⟨gqm, 1, none⟩ = some (.slice qmu.A qmu.n qmu.c) ∧ w'.cell? ⟨gqm, 2, none⟩ = some (.slice qmu.B qmu.m qmu.d) ∧ w'.cell? ⟨gqm, 3, none⟩ = some (.bool qmv.s) ∧ w'.cell? ⟨gqm, 4, none⟩ = some (.slice qmv.A qmv.n qmv.c) ∧ w'.cell? ⟨gqm, 5, none⟩ = some (.slice qmv.B qmv.m qmv.d) ∧ w'.cell? ⟨gpx, 0, none⟩ = some (.bool pxu.s) ∧ w'.cell? ⟨gpx, 1, none⟩ = some (.slice pxu.A pxu.n pxu.c) ∧ w'.cell? ⟨gpx, 2, none⟩ = some (.slice pxu.B pxu.m pxu.d) ∧ w'.cell? ⟨gpy, 0, none⟩ = some (.bool pyu.s) ∧ w'.cell? ⟨gpy, 1, none⟩ = some (.slice pyu.A pyu.n pyu.c) ∧ w'.cell? ⟨gpy, 2, none⟩ = some (.slice pyu.B pyu.m pyu.d))
        (first
          | with_reducible exact ⟨bc_27.cell0, bc_27.cell1, bc_27.cell2, qs_27.cell0, qs_27.cell1, qs_27.cell2, qs_27.cell3, qs_27.cell4, qs_27.cell5, qn_27.cell0, qn_27.cell1, qn_27.cell2, qn_27.cell3, qn_27.cell4, qn_27.cell5, qm_27.cell0, qm_27.cell1, qm_27.cell2, qm_27.cell3, qm_27.cell4, qm_27.cell5, px_27.cell0, px_27.cell1, px_27.cell2, py_27.cell0, py_27.cell1, py_27.cell2⟩
          | with_reducible exact ⟨bc_26.cell0, bc_26.cell1, bc_26.cell2, qs_26.cell0, qs_26.cell1, qs_26.cell2, qs_26.cell3, qs_26.cell4, qs_26.cell5, qn_26.cell0, qn_26.cell1, qn_26.cell2, qn_26.cell3, qn_26.cell4, qn_26.cell5, qm_26.cell0, qm_26.cell1, qm_26.cell2, qm_26.cell3, qm_26.cell4, qm_26.cell5, px_26.cell0, px_26.cell1, px_26.cell2, py_26.cell0, py_26.cell1, py_26.cell2⟩
          | with_reducible exact ⟨bc_25.cell0, bc_25.cell1, bc_25.cell2, qs_25.cell0, qs_25.cell1, qs_25.cell2, qs_25.cell3, qs_25.cell4, qs_25.cell5, qn_25.cell0, qn_25.cell1, qn_25.cell2, qn_25.cell3, qn_25.cell4, qn_25.cell5, qm_25.cell0, qm_25.cell1, qm_25.cell2, qm_25.cell3, qm_25.cell4, qm_25.cell5, px_25.cell0, px_25.cell1, px_25.cell2, py_25.cell0, py_25.cell1, py_25.cell2⟩
          | with_reducible exact ⟨bc_24.cell0, bc_24.cell1, bc_24.cell2, qs_24.cell0, qs_24.cell1, qs_24.cell2, qs_24.cell3, qs_24.cell4, qs_24.cell5, qn_24.cell0, qn_24.cell1, qn_24.cell2, qn_24.cell3, qn_24.cell4, qn_24.cell5, qm_24.cell0, qm_24.cell1, qm_24.cell2, qm_24.cell3, qm_24.cell4, qm_24.cell5, px_24.cell0, px_24.cell1, px_24.cell2, py_24.cell0, py_24.cell1, py_24.cell2⟩
          | with_reducible exact ⟨bc_23.cell0, bc_23.cell1, bc_23.cell2, qs_23.cell0, qs_23.cell1, qs_23.cell2, qs_23.cell3, qs_23.cell4, qs_23.cell5, qn_23.cell0, qn_23.cell1, qn_23.cell2, qn_23.cell3, qn_23.cell4, qn_23.cell5, qm_23.cell0, qm_23.cell1, qm_23.cell2, qm_23.cell3, qm_23.cell4, qm_23.cell5, px_23.cell0, px_23.cell1, px_23.cell2, py_23.cell0, py_23.cell1, py_23.cell2⟩
          | with_reducible exact ⟨bc_22.cell0, bc_22.cell1, bc_22.cell2, qs_22.cell0, qs_22.cell1, qs_22.cell2, qs_22.cell3, qs_22.cell4, qs_22.cell5, qn_22.cell0, qn_22.cell1, qn_22.cell2, qn_22.cell3, qn_22.cell4, qn_22.cell5, qm_22.cell0, qm_22.cell1, qm_22.cell2, qm_22.cell3, qm_22.cell4, qm_22.cell5, px_22.cell0, px_22.cell1, px_22.cell2, py_22.cell0, py_22.cell1, py_22.cell2⟩
          | with_reducible exact ⟨bc_21.cell0, bc_21.cell1, bc_21.cell2, qs_21.cell0, qs_21.cell1, qs_21.cell2, qs_21.cell3, qs_21.cell4, qs_21.cell5, qn_21.cell0, qn_21.cell1, qn_21.cell2, qn_21.cell3, qn_21.cell4, qn_21.cell5, qm_21.cell0, qm_21.cell1, qm_21.cell2, qm_21.cell3, qm_21.cell4, qm_21.cell5, px_21.cell0, px_21.cell1, px_21.cell2, py_21.cell0, py_21.cell1, py_21.cell2⟩
          | fail)
        (first
          | (go_at_call 26; (with_reducible refine (add_u _ _ X Y (X + Y) _ rfl x1_21.iu y1_21.iu ((x1_21.len sX).mono k49) ((y1_21.len sY).mono k49)).mono ?_); rintro e w22 ⟨u22, rfl, z1, b22⟩; have kt_22 := kt_21.below b22; have a1_22 := a1_21.below b22; have a2_22 := a2_21.below b22; have b1_22 := b1_21.below b22; have b2_22 := b2_21.below b22; have m1_22 := m1_21.below b22; have m2_22 := m2_21.below b22; have x1_22 := x1_21.below b22; have y1_22 := y1_21.below b22; have bc_22 := bc_21.below b22 bc_21.lt; have qs_22 := qs_21.below b22 qs_21.lt; have qn_22 := qn_21.below b22 qn_21.lt; have qm_22 := qm_21.below b22 qm_21.lt; have px_22 := px_21.below b22 px_21.lt; have py_22 := py_21.below b22 py_21.lt; have F22 := below_then F21 (Nat.le_refl _) b22)
          | (go_at_call 16; (with_reducible refine (icont_iv _ _ _ S1 S2 (X + Y) true _ HC1.out a1_22 a2_22 z1.iu (z1.len v7) HL.out.1 v1 v2 v7).mono ?_); rintro e w23 ⟨rfl, b23⟩; have kt_23 := kt_22.below b23; have a1_23 := a1_22.below b23; have a2_23 := a2_22.below b23; have b1_23 := b1_22.below b23; have b2_23 := b2_22.below b23; have m1_23 := m1_22.below b23; have m2_23 := m2_22.below b23; have x1_23 := x1_22.below b23; have y1_23 := y1_22.below b23; have z1_23 := z1.below b23; have bc_23 := bc_22.below b23 bc_22.lt; have qs_23 := qs_22.below b23 qs_22.lt; have qn_23 := qn_22.below b23 qn_22.lt; have qm_23 := qm_22.below b23 qm_22.lt; have px_23 := px_22.below b23 px_22.lt; have py_23 := py_22.below b23 py_22.lt; have F23 := below_then F22 (Nat.le_refl _) b23)
          | (go_at_call 27; (with_reducible refine (neg_u _ X (-X) _ rfl x1_23.iu ((x1_23.len sX).mono k49)).mono ?_); rintro e w24 ⟨u24, rfl, z2, b24⟩; have kt_24 := kt_23.below b24; have a1_24 := a1_23.below b24; have a2_24 := a2_23.below b24; have b1_24 := b1_23.below b24; have b2_24 := b2_23.below b24; have m1_24 := m1_23.below b24; have m2_24 := m2_23.below b24; have x1_24 := x1_23.below b24; have y1_24 := y1_23.below b24; have z1_24 := z1_23.below b24; have bc_24 := bc_23.below b24 bc_23.lt; have qs_24 := qs_23.below b24 qs_23.lt; have qn_24 := qn_23.below b24 qn_23.lt; have qm_24 := qm_23.below b24 qm_23.lt; have px_24 := px_23.below b24 px_23.lt; have py_24 := py_23.below b24 py_23.lt; have F24 := below_then F23 (Nat.le_refl _) b24)
          | (go_at_call 16; (with_reducible refine (icont_iv _ _ _ N1 N2 (-X) true _ HC2.out b1_24 b2_24 z2.iu (z2.len v8) HL.out.2.1 v3 v4 v8).mono ?_); rintro e w25 ⟨rfl, b25⟩; have kt_25 := kt_24.below b25; have a1_25 := a1_24.below b25; have a2_25 := a2_24.below b25; have b1_25 := b1_24.below b25; have b2_25 := b2_24.below b25; have m1_25 := m1_24.below b25; have m2_25 := m2_24.below b25; have x1_25 := x1_24.below b25; have y1_25 := y1_24.below b25; have z1_25 := z1_24.below b25; have z2_25 := z2.below b25; have bc_25 := bc_24.below b25 bc_24.lt; have qs_25 := qs_24.below b25 qs_24.lt; have qn_25 := qn_24.below b25 qn_24.lt; have qm_25 := qm_24.below b25 qm_24.lt; have px_25 := px_24.below b25 px_24.lt; have py_25 := py_24.below b25 py_24.lt; have F25 := below_then F24 (Nat.le_refl _) b25)
          | (go_at_call 28; (with_reducible refine (mul_u _ _ X z (X * z) _ rfl x1_25.iu kt_25 ((x1_25.len sX).mono k49) lt4).mono ?_); rintro e w26 ⟨u26, rfl, z3, b26⟩; have kt_26 := kt_25.below b26; have a1_26 := a1_25.below b26; have a2_26 := a2_25.below b26; have b1_26 := b1_25.below b26; have b2_26 := b2_25.below b26; have m1_26 := m1_25.below b26; have m2_26 := m2_25.below b26; have x1_26 := x1_25.below b26; have y1_26 := y1_25.below b26; have z1_26 := z1_25.below b26; have z2_26 := z2_25.below b26; have bc_26 := bc_25.below b26 bc_25.lt; have qs_26 := qs_25.below b26 qs_25.lt; have qn_26 := qn_25.below b26 qn_25.lt; have qm_26 := qm_25.below b26 qm_25.lt; have px_26 := px_25.below b26 px_25.lt; have py_26 := py_25.below b26 py_25.lt; have F26 := below_then F25 (Nat.le_refl _) b26)
          | (go_at_call 16; (with_reducible refine (icont_iv _ _ _ M1 M2 (X * z) true _ HC3.out m1_26 m2_26 z3.iu (z3.len v9) HL.out.2.2 v5 v6 v9).mono ?_); rintro e w27 ⟨rfl, b27⟩; have kt_27 := kt_26.below b27; have a1_27 := a1_26.below b27; have a2_27 := a2_26.below b27; have b1_27 := b1_26.below b27; have b2_27 := b2_26.below b27; have m1_27 := m1_26.below b27; have m2_27 := m2_26.below b27; have x1_27 := x1_26.below b27; have y1_27 := y1_26.below b27; have z1_27 := z1_26.below b27; have z2_27 := z2_26.below b27; have z3_27 := z3.below b27; have bc_27 := bc_26.below b27 bc_26.lt; have qs_27 := qs_26.below b27 qs_26.lt; have qn_27 := qn_26.below b27 qn_26.lt; have qm_27 := qm_26.below b27 qm_26.lt; have px_27 := px_26.below b27 px_26.lt; have py_27 := py_26.below b27 py_26.lt; have F27 := below_then F26 (Nat.le_refl _) b27)
          | fail)
      have bc_u27 := bc_27.cell0
      have bc_v27 := bc_27.cell1
      have bc_w27 := bc_27.cell2
      have qs_u27 := qs_27.cell0
      have qs_v27 := qs_27.cell1
      have qs_w27 := qs_27.cell2
      have qs_x27 := qs_27.cell3
      have qs_y27 := qs_27.cell4
      have qs_z27 := qs_27.cell5
      have qn_u27 := qn_27.cell0
      have qn_v27 := qn_27.cell1
      have qn_w27 := qn_27.cell2
      have qn_x27 := qn_27.cell3
      have qn_y27 := qn_27.cell4
      have qn_z27 := qn_27.cell5
      have qm_u27 := qm_27.cell0
      have qm_v27 := qm_27.cell1
      have qm_w27 := qm_27.cell2
      have qm_x27 := qm_27.cell3
      have qm_y27 := qm_27.cell4
      have qm_z27 := qm_27.cell5
      have px_u27 := px_27.cell0
      have px_v27 := px_27.cell1
      have px_w27 := px_27.cell2
      have py_u27 := py_27.cell0
      have py_v27 := py_27.cell1
      have py_w27 := py_27.cell2
      go_wp2
      go_ret
      exact ⟨rfl, F27⟩
theorem law_isum (u v x y t : Rv) (xs ys xs' ys' zs ws zs' ws' ts ts' : List Nat) (w : World) (hu : Rx w u xs ys) (hv : Rx w v xs' ys') (hx : Rx w x zs ws) (hy : Rx w y zs' ws') (ht : Rx w t ts ts') : Calls Try.prog 4 #[.agg #[.bool u.s, .slice u.A u.n u.c, .slice u.B u.m u.d, .bool v.s, .slice v.A v.n v.c, .slice v.B v.m v.d], .agg #[.bool x.s, .slice x.A x.n x.c, .slice x.B x.m x.d, .bool y.s, .slice y.A y.n y.c, .slice y.B y.m y.d], .agg #[.bool t.s, .slice t.A t.n t.c, .slice t.B t.m t.d]] w (fun e w' => e = .returned (.bool true) ∧ Below w.heap.size w w') := by
  by_cases ha : (Lu 2 u ∧ Lu 2 v ∧ (isC u.s xs ys && isC v.s xs' ys' && decide (rv u.s xs ys ≤ rv v.s xs' ys')) = true)
  · by_cases hb : (Lu 2 x ∧ Lu 2 y ∧ (isC x.s zs ws && isC y.s zs' ws' && decide (rv x.s zs ws ≤ rv y.s zs' ws')) = true)
    · by_cases hc : Lu 2 t
      · exact sm_yes u v x y t xs ys xs' ys' zs ws zs' ws' ts ts' w hu hv hx hy ht ha hb hc
      · exact sm_n3 u v x y t xs ys xs' ys' zs ws zs' ws' ts ts' w hu hv hx hy ht ha hb hc
    · exact sm_n2 u v x y t xs ys xs' ys' zs ws zs' ws' ts ts' w hu hv hx hy ht ha hb
  · exact sm_n1 u v x y t xs ys xs' ys' zs ws zs' ws' ts ts' w hu hv hx hy ht ha
end Go.Proofs.Ytnddhohjfjlaiaa
