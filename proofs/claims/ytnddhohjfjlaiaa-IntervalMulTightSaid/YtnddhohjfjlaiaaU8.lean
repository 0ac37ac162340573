/-
  The walk of IntervalMulTight.
-/
import Derived.Test.YtnddhohjfjlaiaaU3
import Derived.Test.YtnddhohjfjlaiaaU7
namespace Go.Proofs.Ytnddhohjfjlaiaa
open Go.RowKit
set_option linter.unusedVariables false
set_option linter.unusedSimpArgs false

theorem sameb_u (u v : Rv) (p q : Rat) (r : Bool) (w : World) (hr : decide (p = q) = r) (h : Cu w u p) (k : Cu w v q) (hu : Lu 4000 u) (hv : Lu 4000 v) : Calls Try.prog 34 #[.agg #[.bool u.s, .slice u.A u.n u.c, .slice u.B u.m u.d], .agg #[.bool v.s, .slice v.A v.n v.c, .slice v.B v.m v.d]] w (Asks w (.bool r)) := by
  by_cases e : p = q
  · subst e
    rw [decide_eq_true rfl] at hr
    subst hr
    exact same_u u v p w h k hu
  · rw [decide_eq_false e] at hr
    subst hr
    have h1 := same_any u.s v.s u.A u.B v.A v.B u.n u.c u.m u.d v.n v.c v.m v.d _ _ _ _ w _ _ rfl rfl h.1 h.2.1 k.1 k.2.1 (by have := hu.1; omega) (by have := hu.2; omega) (by have := hv.1; omega) (by have := hv.2; omega)
    have e1 : ((u.s == v.s) && decide (dg p.num.natAbs = dg q.num.natAbs) && decide (qd p = qd q)) = false := by
      rw [← Bool.not_eq_true]
      simp only [Bool.and_eq_true, beq_iff_eq, decide_eq_true_eq]
      rintro ⟨⟨e2, e3⟩, e4⟩
      refine e ?_
      have h2 := h.val
      have h3 := k.val
      rw [← h2, ← h3, e2, e3, e4]
    first | (rw [e1] at h1; exact h1) | (simpa [e1] using h1)
/-- Whether A was among the first i of four numbers. -/
def seen (A z0 z1 z2 z3 : Rat) (i : Nat) : Bool := (decide (0 < i) && decide (A = z0)) || (decide (1 < i) && decide (A = z1)) || (decide (2 < i) && decide (A = z2)) || (decide (3 < i) && decide (A = z3))
theorem seen4 {A z0 z1 z2 z3 : Rat} (h : A = z0 ∨ A = z1 ∨ A = z2 ∨ A = z3) : seen A z0 z1 z2 z3 4 = true := by
  unfold seen
  rcases h with rfl | rfl | rfl | rfl <;> simp
theorem seen_s0 {A z0 z1 z2 z3 : Rat} {l l' : Bool} (h : l = seen A z0 z1 z2 z3 0) (h2 : (l = true ∧ l' = true) ∨ (l = false ∧ decide (A = z0) = l')) : l' = seen A z0 z1 z2 z3 1 := by
  have e : seen A z0 z1 z2 z3 1 = (seen A z0 z1 z2 z3 0 || decide (A = z0)) := by
    unfold seen
    simp
  rw [e, ← h]
  rcases h2 with ⟨rfl, rfl⟩ | ⟨rfl, rfl⟩
  · rfl
  · rfl
theorem seen_s1 {A z0 z1 z2 z3 : Rat} {l l' : Bool} (h : l = seen A z0 z1 z2 z3 1) (h2 : (l = true ∧ l' = true) ∨ (l = false ∧ decide (A = z1) = l')) : l' = seen A z0 z1 z2 z3 2 := by
  have e : seen A z0 z1 z2 z3 2 = (seen A z0 z1 z2 z3 1 || decide (A = z1)) := by
    unfold seen
    simp
  rw [e, ← h]
  rcases h2 with ⟨rfl, rfl⟩ | ⟨rfl, rfl⟩
  · rfl
  · rfl
theorem seen_s2 {A z0 z1 z2 z3 : Rat} {l l' : Bool} (h : l = seen A z0 z1 z2 z3 2) (h2 : (l = true ∧ l' = true) ∨ (l = false ∧ decide (A = z2) = l')) : l' = seen A z0 z1 z2 z3 3 := by
  have e : seen A z0 z1 z2 z3 3 = (seen A z0 z1 z2 z3 2 || decide (A = z2)) := by
    unfold seen
    simp
  rw [e, ← h]
  rcases h2 with ⟨rfl, rfl⟩ | ⟨rfl, rfl⟩
  · rfl
  · rfl
theorem seen_s3 {A z0 z1 z2 z3 : Rat} {l l' : Bool} (h : l = seen A z0 z1 z2 z3 3) (h2 : (l = true ∧ l' = true) ∨ (l = false ∧ decide (A = z3) = l')) : l' = seen A z0 z1 z2 z3 4 := by
  have e : seen A z0 z1 z2 z3 4 = (seen A z0 z1 z2 z3 3 || decide (A = z3)) := by
    unfold seen
    simp
  rw [e, ← h]
  rcases h2 with ⟨rfl, rfl⟩ | ⟨rfl, rfl⟩
  · rfl
  · rfl
theorem mn_mem (p q : Rat) : min p q = p ∨ min p q = q := by
  rw [← mn_of]
  split
  · exact .inl rfl
  · exact .inr rfl
theorem mx_mem (p q : Rat) : max p q = p ∨ max p q = q := by
  rw [← mx_of]
  split
  · exact .inl rfl
  · exact .inr rfl
theorem ti_n1 (u v x y : Rv) (xs ys xs' ys' zs ws zs' ws' : List Nat) (w : World) (hu : Rx w u xs ys) (hv : Rx w v xs' ys') (hx : Rx w x zs ws) (hy : Rx w y zs' ws') (hh : ¬ (Lu 2 u ∧ Lu 2 v ∧ (isC u.s xs ys && isC v.s xs' ys' && decide (rv u.s xs ys ≤ rv v.s xs' ys')) = true)) : Calls Try.prog 6 #[.agg #[.bool u.s, .slice u.A u.n u.c, .slice u.B u.m u.d, .bool v.s, .slice v.A v.n v.c, .slice v.B v.m v.d], .agg #[.bool x.s, .slice x.A x.n x.c, .slice x.B x.m x.d, .bool y.s, .slice y.A y.n y.c, .slice y.B y.m y.d]] w (fun e w' => e = .returned (.bool true) ∧ Below w.heap.size w w') := by
  have HN := hide hh
  clear hh hx hy
  have hu_1 := hu.alloc (EV u v)
  have hv_1 := hv.alloc (EV u v)
  have ba_1 : Sv ((w).alloc (EV u v)) (w.heap.size) u v := by have h_ := Sv.new (w) u v; exact h_
  have F1 := (Below.refl w.heap.size w).alloc (Nat.le_refl _) (EV u v)
  have hu_2 := hu_1.alloc (EV x y)
  have hv_2 := hv_1.alloc (EV x y)
  have ba_2 := ba_1.alloc (EV x y)
  have bb_2 : Sv (((w).alloc (EV u v)).alloc (EV x y)) (w.heap.size + 1) x y := by have h_ := Sv.new ((w).alloc (EV u v)) x y; simp only [World.size_alloc] at h_; exact h_
  have F2 := F1.alloc F1.size (EV x y)
  go_enter Try.func6, Try.ntmps6
  have ba_u2 := ba_2.cell0
  have ba_v2 := ba_2.cell1
  have ba_w2 := ba_2.cell2
  have ba_x2 := ba_2.cell3
  have ba_y2 := ba_2.cell4
  have ba_z2 := ba_2.cell5
  have bb_u2 := bb_2.cell0
  have bb_v2 := bb_2.cell1
  have bb_w2 := bb_2.cell2
  have bb_x2 := bb_2.cell3
  have bb_y2 := bb_2.cell4
  have bb_z2 := bb_2.cell5
  go_wp2_with fail
  refine (awake6 _).mono ?_
  rintro e w3 ⟨rfl, b3⟩
  have hu_3 := hu_2.below b3
  have hv_3 := hv_2.below b3
  have ba_3 := ba_2.below b3 ba_2.lt
  have bb_3 := bb_2.below b3 bb_2.lt
  have F3 := below_then F2 (Nat.le_refl _) b3
  have ba_u3 := ba_3.cell0
  have ba_v3 := ba_3.cell1
  have ba_w3 := ba_3.cell2
  have ba_x3 := ba_3.cell3
  have ba_y3 := ba_3.cell4
  have ba_z3 := ba_3.cell5
  have bb_u3 := bb_3.cell0
  have bb_v3 := bb_3.cell1
  have bb_w3 := bb_3.cell2
  have bb_x3 := bb_3.cell3
  have bb_y3 := bb_3.cell4
  have bb_z3 := bb_3.cell5
  go_wp2_with fail
  refine (small_no _ _ xs ys xs' ys' _ hu_3 hv_3 HN.out).mono ?_
  rintro e w4 ⟨rfl, b4⟩
  have hu_4 := hu_3.below b4
  have hv_4 := hv_3.below b4
  have ba_4 := ba_3.below b4 ba_3.lt
  have bb_4 := bb_3.below b4 bb_3.lt
  have F4 := below_then F3 (Nat.le_refl _) b4
  have ba_u4 := ba_4.cell0
  have ba_v4 := ba_4.cell1
  have ba_w4 := ba_4.cell2
  have ba_x4 := ba_4.cell3
  have ba_y4 := ba_4.cell4
  have ba_z4 := ba_4.cell5
  have bb_u4 := bb_4.cell0
  have bb_v4 := bb_4.cell1
  have bb_w4 := bb_4.cell2
  have bb_x4 := bb_4.cell3
  have bb_y4 := bb_4.cell4
  have bb_z4 := bb_4.cell5
  go_wp2
  go_ret
  exact ⟨rfl, F4⟩
theorem ti_n2 (u v x y : Rv) (xs ys xs' ys' zs ws zs' ws' : List Nat) (w : World) (hu : Rx w u xs ys) (hv : Rx w v xs' ys') (hx : Rx w x zs ws) (hy : Rx w y zs' ws') (ha : (Lu 2 u ∧ Lu 2 v ∧ (isC u.s xs ys && isC v.s xs' ys' && decide (rv u.s xs ys ≤ rv v.s xs' ys')) = true)) (hh : ¬ (Lu 2 x ∧ Lu 2 y ∧ (isC x.s zs ws && isC y.s zs' ws' && decide (rv x.s zs ws ≤ rv y.s zs' ws')) = true)) : Calls Try.prog 6 #[.agg #[.bool u.s, .slice u.A u.n u.c, .slice u.B u.m u.d, .bool v.s, .slice v.A v.n v.c, .slice v.B v.m v.d], .agg #[.bool x.s, .slice x.A x.n x.c, .slice x.B x.m x.d, .bool y.s, .slice y.A y.n y.c, .slice y.B y.m y.d]] w (fun e w' => e = .returned (.bool true) ∧ Below w.heap.size w w') := by
  have HN := hide hh
  have HA := hide ha
  clear hh ha
  have hu_1 := hu.alloc (EV u v)
  have hv_1 := hv.alloc (EV u v)
  have hx_1 := hx.alloc (EV u v)
  have hy_1 := hy.alloc (EV u v)
  have ba_1 : Sv ((w).alloc (EV u v)) (w.heap.size) u v := by have h_ := Sv.new (w) u v; exact h_
  have F1 := (Below.refl w.heap.size w).alloc (Nat.le_refl _) (EV u v)
  have hu_2 := hu_1.alloc (EV x y)
  have hv_2 := hv_1.alloc (EV x y)
  have hx_2 := hx_1.alloc (EV x y)
  have hy_2 := hy_1.alloc (EV x y)
  have ba_2 := ba_1.alloc (EV x y)
  have bb_2 : Sv (((w).alloc (EV u v)).alloc (EV x y)) (w.heap.size + 1) x y := by have h_ := Sv.new ((w).alloc (EV u v)) x y; simp only [World.size_alloc] at h_; exact h_
  have F2 := F1.alloc F1.size (EV x y)
  go_enter Try.func6, Try.ntmps6
  have ba_u2 := ba_2.cell0
  have ba_v2 := ba_2.cell1
  have ba_w2 := ba_2.cell2
  have ba_x2 := ba_2.cell3
  have ba_y2 := ba_2.cell4
  have ba_z2 := ba_2.cell5
  have bb_u2 := bb_2.cell0
  have bb_v2 := bb_2.cell1
  have bb_w2 := bb_2.cell2
  have bb_x2 := bb_2.cell3
  have bb_y2 := bb_2.cell4
  have bb_z2 := bb_2.cell5
  go_wp2_with fail
  refine (awake6 _).mono ?_
  rintro e w3 ⟨rfl, b3⟩
  have hu_3 := hu_2.below b3
  have hv_3 := hv_2.below b3
  have hx_3 := hx_2.below b3
  have hy_3 := hy_2.below b3
  have ba_3 := ba_2.below b3 ba_2.lt
  have bb_3 := bb_2.below b3 bb_2.lt
  have F3 := below_then F2 (Nat.le_refl _) b3
  have ba_u3 := ba_3.cell0
  have ba_v3 := ba_3.cell1
  have ba_w3 := ba_3.cell2
  have ba_x3 := ba_3.cell3
  have ba_y3 := ba_3.cell4
  have ba_z3 := ba_3.cell5
  have bb_u3 := bb_3.cell0
  have bb_v3 := bb_3.cell1
  have bb_w3 := bb_3.cell2
  have bb_x3 := bb_3.cell3
  have bb_y3 := bb_3.cell4
  have bb_z3 := bb_3.cell5
  go_wp2_with fail
  refine (small_v _ _ xs ys xs' ys' true _ HA.out.2.2 hu_3 hv_3 HA.out.1 HA.out.2.1).mono ?_
  rintro e w4 ⟨rfl, b4⟩
  have hu_4 := hu_3.below b4
  have hv_4 := hv_3.below b4
  have hx_4 := hx_3.below b4
  have hy_4 := hy_3.below b4
  have ba_4 := ba_3.below b4 ba_3.lt
  have bb_4 := bb_3.below b4 bb_3.lt
  have F4 := below_then F3 (Nat.le_refl _) b4
  have ba_u4 := ba_4.cell0
  have ba_v4 := ba_4.cell1
  have ba_w4 := ba_4.cell2
  have ba_x4 := ba_4.cell3
  have ba_y4 := ba_4.cell4
  have ba_z4 := ba_4.cell5
  have bb_u4 := bb_4.cell0
  have bb_v4 := bb_4.cell1
  have bb_w4 := bb_4.cell2
  have bb_x4 := bb_4.cell3
  have bb_y4 := bb_4.cell4
  have bb_z4 := bb_4.cell5
  go_wp2_with fail
  refine (small_no _ _ zs ws zs' ws' _ hx_4 hy_4 HN.out).mono ?_
  rintro e w5 ⟨rfl, b5⟩
  have hx_5 := hx_4.below b5
  have hy_5 := hy_4.below b5
  have ba_5 := ba_4.below b5 ba_4.lt
  have bb_5 := bb_4.below b5 bb_4.lt
  have F5 := below_then F4 (Nat.le_refl _) b5
  have ba_u5 := ba_5.cell0
  have ba_v5 := ba_5.cell1
  have ba_w5 := ba_5.cell2
  have ba_x5 := ba_5.cell3
  have ba_y5 := ba_5.cell4
  have ba_z5 := ba_5.cell5
  have bb_u5 := bb_5.cell0
  have bb_v5 := bb_5.cell1
  have bb_w5 := bb_5.cell2
  have bb_x5 := bb_5.cell3
  have bb_y5 := bb_5.cell4
  have bb_z5 := bb_5.cell5
  go_wp2
  go_ret
  exact ⟨rfl, F5⟩
set_option maxRecDepth 50000 in
set_option maxHeartbeats 8000000 in
theorem ti_yes (u v x y : Rv) (xs ys xs' ys' zs ws zs' ws' : List Nat) (w : World) (hu : Rx w u xs ys) (hv : Rx w v xs' ys') (hx : Rx w x zs ws) (hy : Rx w y zs' ws') (ha : (Lu 2 u ∧ Lu 2 v ∧ (isC u.s xs ys && isC v.s xs' ys' && decide (rv u.s xs ys ≤ rv v.s xs' ys')) = true)) (hb : (Lu 2 x ∧ Lu 2 y ∧ (isC x.s zs ws && isC y.s zs' ws' && decide (rv x.s zs ws ≤ rv y.s zs' ws')) = true)) : Calls Try.prog 6 #[.agg #[.bool u.s, .slice u.A u.n u.c, .slice u.B u.m u.d, .bool v.s, .slice v.A v.n v.c, .slice v.B v.m v.d], .agg #[.bool x.s, .slice x.A x.n x.c, .slice x.B x.m x.d, .bool y.s, .slice y.A y.n y.c, .slice y.B y.m y.d]] w (fun e w' => e = .returned (.bool true) ∧ Below w.heap.size w w') := by
  obtain ⟨p, q, ku, kv, hpq, sp2, sq2⟩ := vx_of hu hv ha.1 ha.2.1 ha.2.2
  obtain ⟨p', q', kx, ky, hpq', sp2', sq2'⟩ := vx_of hx hy hb.1 hb.2.1 hb.2.2
  have HA := hide ha
  have HB := hide hb
  have sp := sp2.m (show 2 ≤ 100 by decide)
  have sq := sq2.m (show 2 ≤ 100 by decide)
  have sp' := sp2'.m (show 2 ≤ 100 by decide)
  have sq' := sq2'.m (show 2 ≤ 100 by decide)
  have la := (ku.len sp2).mono (show 2 ≤ 4000 by decide)
  have lc := (kv.len sq2).mono (show 2 ≤ 4000 by decide)
  have lx := (kx.len sp2').mono (show 2 ≤ 4000 by decide)
  have ly := (ky.len sq2').mono (show 2 ≤ 4000 by decide)
  have t1 : Qs 4 (p * p') := size_mul sp2 sp2'
  have t2 : Qs 4 (p * q') := size_mul sp2 sq2'
  have t3 : Qs 4 (q * p') := size_mul sq2 sp2'
  have t4 : Qs 4 (q * q') := size_mul sq2 sq2'
  have cA : min (min (p * p') (q * p')) (min (p * q') (q * q')) = p * p' ∨ min (min (p * p') (q * p')) (min (p * q') (q * q')) = p * q' ∨ min (min (p * p') (q * p')) (min (p * q') (q * q')) = q * p' ∨ min (min (p * p') (q * p')) (min (p * q') (q * q')) = q * q' := by
    rcases mn_mem (min (p * p') (q * p')) (min (p * q') (q * q')) with h | h
    · rw [h]
      rcases mn_mem (p * p') (q * p') with h | h <;> rw [h] <;> simp
    · rw [h]
      rcases mn_mem (p * q') (q * q') with h | h <;> rw [h] <;> simp
  have cB : max (max (p * p') (q * p')) (max (p * q') (q * q')) = p * p' ∨ max (max (p * p') (q * p')) (max (p * q') (q * q')) = p * q' ∨ max (max (p * p') (q * p')) (max (p * q') (q * q')) = q * p' ∨ max (max (p * p') (q * p')) (max (p * q') (q * q')) = q * q' := by
    rcases mx_mem (max (p * p') (q * p')) (max (p * q') (q * q')) with h | h
    · rw [h]
      rcases mx_mem (p * p') (q * p') with h | h <;> rw [h] <;> simp
    · rw [h]
      rcases mx_mem (p * q') (q * q') with h | h <;> rw [h] <;> simp
  obtain ⟨A1, hA1⟩ : ∃ z, min (min (p * p') (q * p')) (min (p * q') (q * q')) = z := ⟨_, rfl⟩
  obtain ⟨B1, hB1⟩ : ∃ z, max (max (p * p') (q * p')) (max (p * q') (q * q')) = z := ⟨_, rfl⟩
  have sA1 : Qs 4 A1 := by rw [← hA1]; exact qs_min (qs_min t1 t3) (qs_min t2 t4)
  have sB1 : Qs 4 B1 := by rw [← hB1]; exact qs_max (qs_max t1 t3) (qs_max t2 t4)
  rw [hA1] at cA
  rw [hB1] at cB
  obtain ⟨z0, hz0⟩ : ∃ z, p * p' = z := ⟨_, rfl⟩
  obtain ⟨z1, hz1⟩ : ∃ z, p * q' = z := ⟨_, rfl⟩
  obtain ⟨z2, hz2⟩ : ∃ z, q * p' = z := ⟨_, rfl⟩
  obtain ⟨z3, hz3⟩ : ∃ z, q * q' = z := ⟨_, rfl⟩
  rw [hz0, hz1, hz2, hz3] at cA cB
  rw [hz0] at t1
  rw [hz1] at t2
  rw [hz2] at t3
  rw [hz3] at t4
  have HA1 := hide hA1
  have HB1 := hide hB1
  have HZ0 := hide hz0
  have HZ1 := hide hz1
  have HZ2 := hide hz2
  have HZ3 := hide hz3
  have HS := hide (And.intro (seen4 cA) (seen4 cB))
  have HP := hide (And.intro hpq hpq')
  have k4 : 4 ≤ 4000 := by decide
  clear ha hb hpq hpq' hA1 hB1 cA cB hz0 hz1 hz2 hz3 sp2 sq2 sp2' sq2'
  have hu_1 := hu.alloc (EV u v)
  have hv_1 := hv.alloc (EV u v)
  have hx_1 := hx.alloc (EV u v)
  have hy_1 := hy.alloc (EV u v)
  have ku_1 := ku.alloc (EV u v)
  have kv_1 := kv.alloc (EV u v)
  have kx_1 := kx.alloc (EV u v)
  have ky_1 := ky.alloc (EV u v)
  have ba_1 : Sv ((w).alloc (EV u v)) (w.heap.size) u v := by have h_ := Sv.new (w) u v; exact h_
  have F1 := (Below.refl w.heap.size w).alloc (Nat.le_refl _) (EV u v)
  have hu_2 := hu_1.alloc (EV x y)
  have hv_2 := hv_1.alloc (EV x y)
  have hx_2 := hx_1.alloc (EV x y)
  have hy_2 := hy_1.alloc (EV x y)
  have ku_2 := ku_1.alloc (EV x y)
  have kv_2 := kv_1.alloc (EV x y)
  have kx_2 := kx_1.alloc (EV x y)
  have ky_2 := ky_1.alloc (EV x y)
  have ba_2 := ba_1.alloc (EV x y)
  have bb_2 : Sv (((w).alloc (EV u v)).alloc (EV x y)) (w.heap.size + 1) x y := by have h_ := Sv.new ((w).alloc (EV u v)) x y; simp only [World.size_alloc] at h_; exact h_
  have F2 := F1.alloc F1.size (EV x y)
  go_enter Try.func6, Try.ntmps6
  have ba_u2 := ba_2.cell0
  have ba_v2 := ba_2.cell1
  have ba_w2 := ba_2.cell2
  have ba_x2 := ba_2.cell3
  have ba_y2 := ba_2.cell4
  have ba_z2 := ba_2.cell5
  have bb_u2 := bb_2.cell0
  have bb_v2 := bb_2.cell1
  have bb_w2 := bb_2.cell2
  have bb_x2 := bb_2.cell3
  have bb_y2 := bb_2.cell4
  have bb_z2 := bb_2.cell5
  go_wp2_with fail
  refine (awake6 _).mono ?_
  rintro e w3 ⟨rfl, b3⟩
  have hu_3 := hu_2.below b3
  have hv_3 := hv_2.below b3
  have hx_3 := hx_2.below b3
  have hy_3 := hy_2.below b3
  have ku_3 := ku_2.below b3
  have kv_3 := kv_2.below b3
  have kx_3 := kx_2.below b3
  have ky_3 := ky_2.below b3
  have ba_3 := ba_2.below b3 ba_2.lt
  have bb_3 := bb_2.below b3 bb_2.lt
  have F3 := below_then F2 (Nat.le_refl _) b3
  have ba_u3 := ba_3.cell0
  have ba_v3 := ba_3.cell1
  have ba_w3 := ba_3.cell2
  have ba_x3 := ba_3.cell3
  have ba_y3 := ba_3.cell4
  have ba_z3 := ba_3.cell5
  have bb_u3 := bb_3.cell0
  have bb_v3 := bb_3.cell1
  have bb_w3 := bb_3.cell2
  have bb_x3 := bb_3.cell3
  have bb_y3 := bb_3.cell4
  have bb_z3 := bb_3.cell5
  go_wp2_with fail
  refine (small_v _ _ xs ys xs' ys' true _ HA.out.2.2 hu_3 hv_3 HA.out.1 HA.out.2.1).mono ?_
  rintro e w4 ⟨rfl, b4⟩
  have hu_4 := hu_3.below b4
  have hv_4 := hv_3.below b4
  have hx_4 := hx_3.below b4
  have hy_4 := hy_3.below b4
  have ku_4 := ku_3.below b4
  have kv_4 := kv_3.below b4
  have kx_4 := kx_3.below b4
  have ky_4 := ky_3.below b4
  have ba_4 := ba_3.below b4 ba_3.lt
  have bb_4 := bb_3.below b4 bb_3.lt
  have F4 := below_then F3 (Nat.le_refl _) b4
  have ba_u4 := ba_4.cell0
  have ba_v4 := ba_4.cell1
  have ba_w4 := ba_4.cell2
  have ba_x4 := ba_4.cell3
  have ba_y4 := ba_4.cell4
  have ba_z4 := ba_4.cell5
  have bb_u4 := bb_4.cell0
  have bb_v4 := bb_4.cell1
  have bb_w4 := bb_4.cell2
  have bb_x4 := bb_4.cell3
  have bb_y4 := bb_4.cell4
  have bb_z4 := bb_4.cell5
  go_wp2_with fail
  refine (small_v _ _ zs ws zs' ws' true _ HB.out.2.2 hx_4 hy_4 HB.out.1 HB.out.2.1).mono ?_
  rintro e w5 ⟨rfl, b5⟩
  have hx_5 := hx_4.below b5
  have hy_5 := hy_4.below b5
  have ku_5 := ku_4.below b5
  have kv_5 := kv_4.below b5
  have kx_5 := kx_4.below b5
  have ky_5 := ky_4.below b5
  have ba_5 := ba_4.below b5 ba_4.lt
  have bb_5 := bb_4.below b5 bb_4.lt
  have F5 := below_then F4 (Nat.le_refl _) b5
  have ba_u5 := ba_5.cell0
  have ba_v5 := ba_5.cell1
  have ba_w5 := ba_5.cell2
  have ba_x5 := ba_5.cell3
  have ba_y5 := ba_5.cell4
  have ba_z5 := ba_5.cell5
  have bb_u5 := bb_5.cell0
  have bb_v5 := bb_5.cell1
  have bb_w5 := bb_5.cell2
  have bb_x5 := bb_5.cell3
  have bb_y5 := bb_5.cell4
  have bb_z5 := bb_5.cell5
  go_wp2_with fail
  refine (imul_e _ _ _ _ p q p' q' A1 B1 _ HA1.out HB1.out ku_5 kv_5 kx_5 ky_5 HP.out.1 HP.out.2 sp sq sp' sq').mono ?_
  rintro e w6 ⟨u6, v6, rfl, m1, m2, b6⟩
  have ku_6 := ku_5.below b6
  have kv_6 := kv_5.below b6
  have kx_6 := kx_5.below b6
  have ky_6 := ky_5.below b6
  have ba_6 := ba_5.below b6 ba_5.lt
  have bb_6 := bb_5.below b6 bb_5.lt
  have F6 := below_then F5 (Nat.le_refl _) b6
  have ba_u6 := ba_6.cell0
  have ba_v6 := ba_6.cell1
  have ba_w6 := ba_6.cell2
  have ba_x6 := ba_6.cell3
  have ba_y6 := ba_6.cell4
  have ba_z6 := ba_6.cell5
  have bb_u6 := bb_6.cell0
  have bb_v6 := bb_6.cell1
  have bb_w6 := bb_6.cell2
  have bb_x6 := bb_6.cell3
  have bb_y6 := bb_6.cell4
  have bb_z6 := bb_6.cell5
  have lt_bp_ba := ba_6.lt
  have lt_bp_bb := bb_6.lt
  have ku_7 := ku_6.alloc (EV u6 v6)
  have kv_7 := kv_6.alloc (EV u6 v6)
  have kx_7 := kx_6.alloc (EV u6 v6)
  have ky_7 := ky_6.alloc (EV u6 v6)
  have m1_7 := m1.alloc (EV u6 v6)
  have m2_7 := m2.alloc (EV u6 v6)
  have ba_7 := ba_6.alloc (EV u6 v6)
  have bb_7 := bb_6.alloc (EV u6 v6)
  have bp_7 : Sv ((w6).alloc (EV u6 v6)) (w6.heap.size) u6 v6 := by have h_ := Sv.new (w6) u6 v6; exact h_
  have F7 := F6.alloc F6.size (EV u6 v6)
  have ba_u7 := ba_7.cell0
  have ba_v7 := ba_7.cell1
  have ba_w7 := ba_7.cell2
  have ba_x7 := ba_7.cell3
  have ba_y7 := ba_7.cell4
  have ba_z7 := ba_7.cell5
  have bb_u7 := bb_7.cell0
  have bb_v7 := bb_7.cell1
  have bb_w7 := bb_7.cell2
  have bb_x7 := bb_7.cell3
  have bb_y7 := bb_7.cell4
  have bb_z7 := bb_7.cell5
  have bp_u7 := bp_7.cell0
  have bp_v7 := bp_7.cell1
  have bp_w7 := bp_7.cell2
  have bp_x7 := bp_7.cell3
  have bp_y7 := bp_7.cell4
  have bp_z7 := bp_7.cell5
  go_upto_region 6 with fail
  go_cut [6] (fun sx7 wy => ∃ (wx7 : World) (g : Nat) (u9 : Rv) (u10 : Rv) (u11 : Rv) (u12 : Rv), wx7 = wy ∧ sx7 = .pointer (some ⟨g, 0, none⟩) ∧ S12 wx7 g (.bool u9.s) (.slice u9.A u9.n u9.c) (.slice u9.B u9.m u9.d) (.bool u10.s) (.slice u10.A u10.n u10.c) (.slice u10.B u10.m u10.d) (.bool u11.s) (.slice u11.A u11.n u11.c) (.slice u11.B u11.m u11.d) (.bool u12.s) (.slice u12.A u12.n u12.c) (.slice u12.B u12.m u12.d) ∧ w.heap.size ≤ g ∧ w.heap.size ≠ g ∧ w.heap.size + 1 ≠ g ∧ w6.heap.size ≠ g ∧ Sv wx7 (w.heap.size) u v ∧ Sv wx7 (w.heap.size + 1) x y ∧ Sv wx7 (w6.heap.size) u6 v6 ∧ Cu wx7 u p ∧ Cu wx7 v q ∧ Cu wx7 x p' ∧ Cu wx7 y q' ∧ Cu wx7 u6 A1 ∧ Cu wx7 v6 B1 ∧ Cu wx7 u9 z0 ∧ Cu wx7 u10 z1 ∧ Cu wx7 u11 z2 ∧ Cu wx7 u12 z3 ∧ Below w.heap.size w wx7)
  case first =>
    have ku_8 := ku_7.drew
    have kv_8 := kv_7.drew
    have kx_8 := kx_7.drew
    have ky_8 := ky_7.drew
    have m1_8 := m1_7.drew
    have m2_8 := m2_7.drew
    have ba_8 := ba_7.drew
    have bb_8 := bb_7.drew
    have bp_8 := bp_7.drew
    have F8 := F7.drew
    have ku_z0 := (ku_7.alloc EA0).drew
    have kv_z0 := (kv_7.alloc EA0).drew
    have kx_z0 := (kx_7.alloc EA0).drew
    have ky_z0 := (ky_7.alloc EA0).drew
    have m1_z0 := (m1_7.alloc EA0).drew
    have m2_z0 := (m2_7.alloc EA0).drew
    have ba_z0 := (ba_7.alloc EA0).drew
    have bb_z0 := (bb_7.alloc EA0).drew
    have bp_z0 := (bp_7.alloc EA0).drew
    have lz_ba : w.heap.size ≠ w6.heap.size + 1 := by omega
    have lz_bb : w.heap.size + 1 ≠ w6.heap.size + 1 := by omega
    have lz_bp : w6.heap.size ≠ w6.heap.size + 1 := by omega
    have gl : w.heap.size ≤ w6.heap.size + 1 := by omega
    have F_z0 := (F7.alloc F7.size EA0).drew
    have zb_0 : S12 (((w6).alloc (EV u6 v6)).alloc EA0).drew (w6.heap.size + 1) (.bool false) (.slice none 0 0) (.slice none 0 0) (.bool false) (.slice none 0 0) (.slice none 0 0) (.bool false) (.slice none 0 0) (.slice none 0 0) (.bool false) (.slice none 0 0) (.slice none 0 0) := by have h_ := S12.new ((w6).alloc (EV u6 v6)) (.bool false) (.slice none 0 0) (.slice none 0 0) (.bool false) (.slice none 0 0) (.slice none 0 0) (.bool false) (.slice none 0 0) (.slice none 0 0) (.bool false) (.slice none 0 0) (.slice none 0 0); simp only [World.size_alloc] at h_; exact h_.drew
    go_region_held3 (fun w' => w'.cell? ⟨w.heap.size, 0, none⟩ = some (.bool u.s) ∧ w'.cell? ⟨w.heap.size, 1, none⟩ = some (.slice u.A u.n u.c) ∧ w'.cell? ⟨w.heap.size, 2, none⟩ = some (.slice u.B u.m u.d) ∧ w'.cell? ⟨w.heap.size, 3, none⟩ = some (.bool v.s) ∧ w'.cell? ⟨w.heap.size, 4, none⟩ = some (.slice v.A v.n v.c) ∧ w'.cell? ⟨w.heap.size, 5, none⟩ = some (.slice v.B v.m v.d) ∧ w'.cell? ⟨w.heap.size + 1, 0, none⟩ = some (.bool x.s) ∧ w'.cell? ⟨w.heap.size + 1, 1, none⟩ = some (.slice x.A x.n x.c) ∧ w'.cell? ⟨w.heap.size + 1, 2, none⟩ = some (.slice x.B x.m x.d) ∧ w'.cell? ⟨w.heap.size + 1, 3, none⟩ = some (.bool y.s) ∧ w'.cell? ⟨w.heap.size + 1, 4, none⟩ = some (.slice y.A y.n y.c) ∧ w'.cell? ⟨w.heap.size + 1, 5, none⟩ = some (.slice y.B y.m y.d))
      (first
        | with_reducible exact ⟨(ba_12.alloc (EA u9 u10 u11 u12)).cell0, (ba_12.alloc (EA u9 u10 u11 u12)).cell1, (ba_12.alloc (EA u9 u10 u11 u12)).cell2, (ba_12.alloc (EA u9 u10 u11 u12)).cell3, (ba_12.alloc (EA u9 u10 u11 u12)).cell4, (ba_12.alloc (EA u9 u10 u11 u12)).cell5, (bb_12.alloc (EA u9 u10 u11 u12)).cell0, (bb_12.alloc (EA u9 u10 u11 u12)).cell1, (bb_12.alloc (EA u9 u10 u11 u12)).cell2, (bb_12.alloc (EA u9 u10 u11 u12)).cell3, (bb_12.alloc (EA u9 u10 u11 u12)).cell4, (bb_12.alloc (EA u9 u10 u11 u12)).cell5⟩
        | with_reducible exact ⟨(ba_12.past12 (u0 := .bool u9.s) (u1 := .slice u9.A u9.n u9.c) (u2 := .slice u9.B u9.m u9.d) (u3 := .bool u10.s) (u4 := .slice u10.A u10.n u10.c) (u5 := .slice u10.B u10.m u10.d) (u6 := .bool u11.s) (u7 := .slice u11.A u11.n u11.c) (u8 := .slice u11.B u11.m u11.d) (u9 := .bool u12.s) (u10 := .slice u12.A u12.n u12.c) (u11 := .slice u12.B u12.m u12.d) lz_ba).cell0, (ba_12.past12 (u0 := .bool u9.s) (u1 := .slice u9.A u9.n u9.c) (u2 := .slice u9.B u9.m u9.d) (u3 := .bool u10.s) (u4 := .slice u10.A u10.n u10.c) (u5 := .slice u10.B u10.m u10.d) (u6 := .bool u11.s) (u7 := .slice u11.A u11.n u11.c) (u8 := .slice u11.B u11.m u11.d) (u9 := .bool u12.s) (u10 := .slice u12.A u12.n u12.c) (u11 := .slice u12.B u12.m u12.d) lz_ba).cell1, (ba_12.past12 (u0 := .bool u9.s) (u1 := .slice u9.A u9.n u9.c) (u2 := .slice u9.B u9.m u9.d) (u3 := .bool u10.s) (u4 := .slice u10.A u10.n u10.c) (u5 := .slice u10.B u10.m u10.d) (u6 := .bool u11.s) (u7 := .slice u11.A u11.n u11.c) (u8 := .slice u11.B u11.m u11.d) (u9 := .bool u12.s) (u10 := .slice u12.A u12.n u12.c) (u11 := .slice u12.B u12.m u12.d) lz_ba).cell2, (ba_12.past12 (u0 := .bool u9.s) (u1 := .slice u9.A u9.n u9.c) (u2 := .slice u9.B u9.m u9.d) (u3 := .bool u10.s) (u4 := .slice u10.A u10.n u10.c) (u5 := .slice u10.B u10.m u10.d) (u6 := .bool u11.s) (u7 := .slice u11.A u11.n u11.c) (u8 := .slice u11.B u11.m u11.d) (u9 := .bool u12.s) (u10 := .slice u12.A u12.n u12.c) (u11 := .slice u12.B u12.m u12.d) lz_ba).cell3, (ba_12.past12 (u0 := .bool u9.s) (u1 := .slice u9.A u9.n u9.c) (u2 := .slice u9.B u9.m u9.d) (u3 := .bool u10.s) (u4 := .slice u10.A u10.n u10.c) (u5 := .slice u10.B u10.m u10.d) (u6 := .bool u11.s) (u7 := .slice u11.A u11.n u11.c) (u8 := .slice u11.B u11.m u11.d) (u9 := .bool u12.s) (u10 := .slice u12.A u12.n u12.c) (u11 := .slice u12.B u12.m u12.d) lz_ba).cell4, (ba_12.past12 (u0 := .bool u9.s) (u1 := .slice u9.A u9.n u9.c) (u2 := .slice u9.B u9.m u9.d) (u3 := .bool u10.s) (u4 := .slice u10.A u10.n u10.c) (u5 := .slice u10.B u10.m u10.d) (u6 := .bool u11.s) (u7 := .slice u11.A u11.n u11.c) (u8 := .slice u11.B u11.m u11.d) (u9 := .bool u12.s) (u10 := .slice u12.A u12.n u12.c) (u11 := .slice u12.B u12.m u12.d) lz_ba).cell5, (bb_12.past12 (u0 := .bool u9.s) (u1 := .slice u9.A u9.n u9.c) (u2 := .slice u9.B u9.m u9.d) (u3 := .bool u10.s) (u4 := .slice u10.A u10.n u10.c) (u5 := .slice u10.B u10.m u10.d) (u6 := .bool u11.s) (u7 := .slice u11.A u11.n u11.c) (u8 := .slice u11.B u11.m u11.d) (u9 := .bool u12.s) (u10 := .slice u12.A u12.n u12.c) (u11 := .slice u12.B u12.m u12.d) lz_bb).cell0, (bb_12.past12 (u0 := .bool u9.s) (u1 := .slice u9.A u9.n u9.c) (u2 := .slice u9.B u9.m u9.d) (u3 := .bool u10.s) (u4 := .slice u10.A u10.n u10.c) (u5 := .slice u10.B u10.m u10.d) (u6 := .bool u11.s) (u7 := .slice u11.A u11.n u11.c) (u8 := .slice u11.B u11.m u11.d) (u9 := .bool u12.s) (u10 := .slice u12.A u12.n u12.c) (u11 := .slice u12.B u12.m u12.d) lz_bb).cell1, (bb_12.past12 (u0 := .bool u9.s) (u1 := .slice u9.A u9.n u9.c) (u2 := .slice u9.B u9.m u9.d) (u3 := .bool u10.s) (u4 := .slice u10.A u10.n u10.c) (u5 := .slice u10.B u10.m u10.d) (u6 := .bool u11.s) (u7 := .slice u11.A u11.n u11.c) (u8 := .slice u11.B u11.m u11.d) (u9 := .bool u12.s) (u10 := .slice u12.A u12.n u12.c) (u11 := .slice u12.B u12.m u12.d) lz_bb).cell2, (bb_12.past12 (u0 := .bool u9.s) (u1 := .slice u9.A u9.n u9.c) (u2 := .slice u9.B u9.m u9.d) (u3 := .bool u10.s) (u4 := .slice u10.A u10.n u10.c) (u5 := .slice u10.B u10.m u10.d) (u6 := .bool u11.s) (u7 := .slice u11.A u11.n u11.c) (u8 := .slice u11.B u11.m u11.d) (u9 := .bool u12.s) (u10 := .slice u12.A u12.n u12.c) (u11 := .slice u12.B u12.m u12.d) lz_bb).cell3, (bb_12.past12 (u0 := .bool u9.s) (u1 := .slice u9.A u9.n u9.c) (u2 := .slice u9.B u9.m u9.d) (u3 := .bool u10.s) (u4 := .slice u10.A u10.n u10.c) (u5 := .slice u10.B u10.m u10.d) (u6 := .bool u11.s) (u7 := .slice u11.A u11.n u11.c) (u8 := .slice u11.B u11.m u11.d) (u9 := .bool u12.s) (u10 := .slice u12.A u12.n u12.c) (u11 := .slice u12.B u12.m u12.d) lz_bb).cell4, (bb_12.past12 (u0 := .bool u9.s) (u1 := .slice u9.A u9.n u9.c) (u2 := .slice u9.B u9.m u9.d) (u3 := .bool u10.s) (u4 := .slice u10.A u10.n u10.c) (u5 := .slice u10.B u10.m u10.d) (u6 := .bool u11.s) (u7 := .slice u11.A u11.n u11.c) (u8 := .slice u11.B u11.m u11.d) (u9 := .bool u12.s) (u10 := .slice u12.A u12.n u12.c) (u11 := .slice u12.B u12.m u12.d) lz_bb).cell5⟩
        | with_reducible exact ⟨(ba_12.alloc EA0).cell0, (ba_12.alloc EA0).cell1, (ba_12.alloc EA0).cell2, (ba_12.alloc EA0).cell3, (ba_12.alloc EA0).cell4, (ba_12.alloc EA0).cell5, (bb_12.alloc EA0).cell0, (bb_12.alloc EA0).cell1, (bb_12.alloc EA0).cell2, (bb_12.alloc EA0).cell3, (bb_12.alloc EA0).cell4, (bb_12.alloc EA0).cell5⟩
        | with_reducible exact ⟨ba_12.cell0, ba_12.cell1, ba_12.cell2, ba_12.cell3, ba_12.cell4, ba_12.cell5, bb_12.cell0, bb_12.cell1, bb_12.cell2, bb_12.cell3, bb_12.cell4, bb_12.cell5⟩
        | with_reducible exact ⟨(ba_11.alloc EA0).cell0, (ba_11.alloc EA0).cell1, (ba_11.alloc EA0).cell2, (ba_11.alloc EA0).cell3, (ba_11.alloc EA0).cell4, (ba_11.alloc EA0).cell5, (bb_11.alloc EA0).cell0, (bb_11.alloc EA0).cell1, (bb_11.alloc EA0).cell2, (bb_11.alloc EA0).cell3, (bb_11.alloc EA0).cell4, (bb_11.alloc EA0).cell5⟩
        | with_reducible exact ⟨ba_11.cell0, ba_11.cell1, ba_11.cell2, ba_11.cell3, ba_11.cell4, ba_11.cell5, bb_11.cell0, bb_11.cell1, bb_11.cell2, bb_11.cell3, bb_11.cell4, bb_11.cell5⟩
        | with_reducible exact ⟨(ba_10.alloc EA0).cell0, (ba_10.alloc EA0).cell1, (ba_10.alloc EA0).cell2, (ba_10.alloc EA0).cell3, (ba_10.alloc EA0).cell4, (ba_10.alloc EA0).cell5, (bb_10.alloc EA0).cell0, (bb_10.alloc EA0).cell1, (bb_10.alloc EA0).cell2, (bb_10.alloc EA0).cell3, (bb_10.alloc EA0).cell4, (bb_10.alloc EA0).cell5⟩
        | with_reducible exact ⟨ba_10.cell0, ba_10.cell1, ba_10.cell2, ba_10.cell3, ba_10.cell4, ba_10.cell5, bb_10.cell0, bb_10.cell1, bb_10.cell2, bb_10.cell3, bb_10.cell4, bb_10.cell5⟩
        | with_reducible exact ⟨(ba_9.alloc EA0).cell0, (ba_9.alloc EA0).cell1, (ba_9.alloc EA0).cell2, (ba_9.alloc EA0).cell3, (ba_9.alloc EA0).cell4, (ba_9.alloc EA0).cell5, (bb_9.alloc EA0).cell0, (bb_9.alloc EA0).cell1, (bb_9.alloc EA0).cell2, (bb_9.alloc EA0).cell3, (bb_9.alloc EA0).cell4, (bb_9.alloc EA0).cell5⟩
        | with_reducible exact ⟨ba_9.cell0, ba_9.cell1, ba_9.cell2, ba_9.cell3, ba_9.cell4, ba_9.cell5, bb_9.cell0, bb_9.cell1, bb_9.cell2, bb_9.cell3, bb_9.cell4, bb_9.cell5⟩
        | with_reducible exact ⟨ba_z0.cell0, ba_z0.cell1, ba_z0.cell2, ba_z0.cell3, ba_z0.cell4, ba_z0.cell5, bb_z0.cell0, bb_z0.cell1, bb_z0.cell2, bb_z0.cell3, bb_z0.cell4, bb_z0.cell5⟩
        | with_reducible exact ⟨ba_8.cell0, ba_8.cell1, ba_8.cell2, ba_8.cell3, ba_8.cell4, ba_8.cell5, bb_8.cell0, bb_8.cell1, bb_8.cell2, bb_8.cell3, bb_8.cell4, bb_8.cell5⟩
        | fail)
      (first
        | (go_at_call 28; (with_reducible refine (mul_u _ _ p p' z0 _ HZ0.out ku_8.iu kx_8.iu la lx).mono ?_); rintro e w9 ⟨u9, rfl, e0, b9⟩; have ku_9 := ku_8.below b9; have kv_9 := kv_8.below b9; have kx_9 := kx_8.below b9; have ky_9 := ky_8.below b9; have m1_9 := m1_8.below b9; have m2_9 := m2_8.below b9; have ba_9 := ba_8.below b9 ba_8.lt; have bb_9 := bb_8.below b9 bb_8.lt; have bp_9 := bp_8.below b9 bp_8.lt; have F9 := below_then F8 (Nat.le_refl _) b9)
        | (go_at_call 28; (with_reducible refine (mul_u _ _ p p' z0 _ HZ0.out ku_z0.iu kx_z0.iu la lx).mono ?_); rintro e w9 ⟨u9, rfl, e0, b9⟩; have ku_9 := ku_z0.below b9; have kv_9 := kv_z0.below b9; have kx_9 := kx_z0.below b9; have ky_9 := ky_z0.below b9; have m1_9 := m1_z0.below b9; have m2_9 := m2_z0.below b9; have ba_9 := ba_z0.below b9 ba_z0.lt; have bb_9 := bb_z0.below b9 bb_z0.lt; have bp_9 := bp_z0.below b9 bp_z0.lt; have F9 := below_then F_z0 (Nat.le_refl _) b9; have zb_9 := zb_0.below b9 zb_0.lt)
        | (go_at_call 28; (with_reducible refine (mul_u _ _ p q' z1 _ HZ1.out ku_9.iu ky_9.iu la ly).mono ?_); rintro e w10 ⟨u10, rfl, e1, b10⟩; have ku_10 := ku_9.below b10; have kv_10 := kv_9.below b10; have kx_10 := kx_9.below b10; have ky_10 := ky_9.below b10; have m1_10 := m1_9.below b10; have m2_10 := m2_9.below b10; have e0_10 := e0.below b10; have ba_10 := ba_9.below b10 ba_9.lt; have bb_10 := bb_9.below b10 bb_9.lt; have bp_10 := bp_9.below b10 bp_9.lt; have F10 := below_then F9 (Nat.le_refl _) b10; have zb_10 := zb_9.below b10 zb_9.lt)
        | (go_at_call 28; (with_reducible refine (mul_u _ _ p q' z1 _ HZ1.out ku_9.iu ky_9.iu la ly).mono ?_); rintro e w10 ⟨u10, rfl, e1, b10⟩; have ku_10 := ku_9.below b10; have kv_10 := kv_9.below b10; have kx_10 := kx_9.below b10; have ky_10 := ky_9.below b10; have m1_10 := m1_9.below b10; have m2_10 := m2_9.below b10; have e0_10 := e0.below b10; have ba_10 := ba_9.below b10 ba_9.lt; have bb_10 := bb_9.below b10 bb_9.lt; have bp_10 := bp_9.below b10 bp_9.lt; have F10 := below_then F9 (Nat.le_refl _) b10)
        | (have ku_z10 := ku_9.alloc EA0; have kv_z10 := kv_9.alloc EA0; have kx_z10 := kx_9.alloc EA0; have ky_z10 := ky_9.alloc EA0; have m1_z10 := m1_9.alloc EA0; have m2_z10 := m2_9.alloc EA0; have e0_z10 := e0.alloc EA0; have ba_z10 := ba_9.alloc EA0; have bb_z10 := bb_9.alloc EA0; have bp_z10 := bp_9.alloc EA0; have lz_ba := Nat.ne_of_lt ba_9.lt; have lz_bb := Nat.ne_of_lt bb_9.lt; have lz_bp := Nat.ne_of_lt bp_9.lt; have gl := F9.size; have F_z10 := F9.alloc F9.size EA0; have zb_9 := S12.new (w9) (.bool false) (.slice none 0 0) (.slice none 0 0) (.bool false) (.slice none 0 0) (.slice none 0 0) (.bool false) (.slice none 0 0) (.slice none 0 0) (.bool false) (.slice none 0 0) (.slice none 0 0); go_at_call 28; (with_reducible refine (mul_u _ _ p q' z1 _ HZ1.out ku_z10.iu ky_z10.iu la ly).mono ?_); rintro e w10 ⟨u10, rfl, e1, b10⟩; have ku_10 := ku_z10.below b10; have kv_10 := kv_z10.below b10; have kx_10 := kx_z10.below b10; have ky_10 := ky_z10.below b10; have m1_10 := m1_z10.below b10; have m2_10 := m2_z10.below b10; have e0_10 := e0_z10.below b10; have ba_10 := ba_z10.below b10 ba_z10.lt; have bb_10 := bb_z10.below b10 bb_z10.lt; have bp_10 := bp_z10.below b10 bp_z10.lt; have F10 := below_then F_z10 (Nat.le_refl _) b10; have zb_10 := zb_9.below b10 zb_9.lt)
        | (go_at_call 28; (with_reducible refine (mul_u _ _ q p' z2 _ HZ2.out kv_10.iu kx_10.iu lc lx).mono ?_); rintro e w11 ⟨u11, rfl, e2, b11⟩; have ku_11 := ku_10.below b11; have kv_11 := kv_10.below b11; have kx_11 := kx_10.below b11; have ky_11 := ky_10.below b11; have m1_11 := m1_10.below b11; have m2_11 := m2_10.below b11; have e0_11 := e0_10.below b11; have e1_11 := e1.below b11; have ba_11 := ba_10.below b11 ba_10.lt; have bb_11 := bb_10.below b11 bb_10.lt; have bp_11 := bp_10.below b11 bp_10.lt; have F11 := below_then F10 (Nat.le_refl _) b11; have zb_11 := zb_10.below b11 zb_10.lt)
        | (go_at_call 28; (with_reducible refine (mul_u _ _ q p' z2 _ HZ2.out kv_10.iu kx_10.iu lc lx).mono ?_); rintro e w11 ⟨u11, rfl, e2, b11⟩; have ku_11 := ku_10.below b11; have kv_11 := kv_10.below b11; have kx_11 := kx_10.below b11; have ky_11 := ky_10.below b11; have m1_11 := m1_10.below b11; have m2_11 := m2_10.below b11; have e0_11 := e0_10.below b11; have e1_11 := e1.below b11; have ba_11 := ba_10.below b11 ba_10.lt; have bb_11 := bb_10.below b11 bb_10.lt; have bp_11 := bp_10.below b11 bp_10.lt; have F11 := below_then F10 (Nat.le_refl _) b11)
        | (have ku_z11 := ku_10.alloc EA0; have kv_z11 := kv_10.alloc EA0; have kx_z11 := kx_10.alloc EA0; have ky_z11 := ky_10.alloc EA0; have m1_z11 := m1_10.alloc EA0; have m2_z11 := m2_10.alloc EA0; have e0_z11 := e0_10.alloc EA0; have e1_z11 := e1.alloc EA0; have ba_z11 := ba_10.alloc EA0; have bb_z11 := bb_10.alloc EA0; have bp_z11 := bp_10.alloc EA0; have lz_ba := Nat.ne_of_lt ba_10.lt; have lz_bb := Nat.ne_of_lt bb_10.lt; have lz_bp := Nat.ne_of_lt bp_10.lt; have gl := F10.size; have F_z11 := F10.alloc F10.size EA0; have zb_10 := S12.new (w10) (.bool false) (.slice none 0 0) (.slice none 0 0) (.bool false) (.slice none 0 0) (.slice none 0 0) (.bool false) (.slice none 0 0) (.slice none 0 0) (.bool false) (.slice none 0 0) (.slice none 0 0); go_at_call 28; (with_reducible refine (mul_u _ _ q p' z2 _ HZ2.out kv_z11.iu kx_z11.iu lc lx).mono ?_); rintro e w11 ⟨u11, rfl, e2, b11⟩; have ku_11 := ku_z11.below b11; have kv_11 := kv_z11.below b11; have kx_11 := kx_z11.below b11; have ky_11 := ky_z11.below b11; have m1_11 := m1_z11.below b11; have m2_11 := m2_z11.below b11; have e0_11 := e0_z11.below b11; have e1_11 := e1_z11.below b11; have ba_11 := ba_z11.below b11 ba_z11.lt; have bb_11 := bb_z11.below b11 bb_z11.lt; have bp_11 := bp_z11.below b11 bp_z11.lt; have F11 := below_then F_z11 (Nat.le_refl _) b11; have zb_11 := zb_10.below b11 zb_10.lt)
        | (go_at_call 28; (with_reducible refine (mul_u _ _ q q' z3 _ HZ3.out kv_11.iu ky_11.iu lc ly).mono ?_); rintro e w12 ⟨u12, rfl, e3, b12⟩; have ku_12 := ku_11.below b12; have kv_12 := kv_11.below b12; have kx_12 := kx_11.below b12; have ky_12 := ky_11.below b12; have m1_12 := m1_11.below b12; have m2_12 := m2_11.below b12; have e0_12 := e0_11.below b12; have e1_12 := e1_11.below b12; have e2_12 := e2.below b12; have ba_12 := ba_11.below b12 ba_11.lt; have bb_12 := bb_11.below b12 bb_11.lt; have bp_12 := bp_11.below b12 bp_11.lt; have F12 := below_then F11 (Nat.le_refl _) b12; have zb_12 := zb_11.below b12 zb_11.lt; have zk12_0 := zb_12.cell0; have zk12_1 := zb_12.cell1; have zk12_2 := zb_12.cell2; have zk12_3 := zb_12.cell3; have zk12_4 := zb_12.cell4; have zk12_5 := zb_12.cell5; have zk12_6 := zb_12.cell6; have zk12_7 := zb_12.cell7; have zk12_8 := zb_12.cell8; have zk12_9 := zb_12.cell9; have zk12_10 := zb_12.cell10; have zk12_11 := zb_12.cell11; have zf12_0 := zb_12.frozen 0; have zf12_1 := zb_12.frozen 1; have zf12_2 := zb_12.frozen 2; have zf12_3 := zb_12.frozen 3; have zf12_4 := zb_12.frozen 4; have zf12_5 := zb_12.frozen 5; have zf12_6 := zb_12.frozen 6; have zf12_7 := zb_12.frozen 7; have zf12_8 := zb_12.frozen 8; have zf12_9 := zb_12.frozen 9; have zf12_10 := zb_12.frozen 10; have zf12_11 := zb_12.frozen 11)
        | (go_at_call 28; (with_reducible refine (mul_u _ _ q q' z3 _ HZ3.out kv_11.iu ky_11.iu lc ly).mono ?_); rintro e w12 ⟨u12, rfl, e3, b12⟩; have ku_12 := ku_11.below b12; have kv_12 := kv_11.below b12; have kx_12 := kx_11.below b12; have ky_12 := ky_11.below b12; have m1_12 := m1_11.below b12; have m2_12 := m2_11.below b12; have e0_12 := e0_11.below b12; have e1_12 := e1_11.below b12; have e2_12 := e2.below b12; have ba_12 := ba_11.below b12 ba_11.lt; have bb_12 := bb_11.below b12 bb_11.lt; have bp_12 := bp_11.below b12 bp_11.lt; have F12 := below_then F11 (Nat.le_refl _) b12)
        | (have ku_z12 := ku_11.alloc EA0; have kv_z12 := kv_11.alloc EA0; have kx_z12 := kx_11.alloc EA0; have ky_z12 := ky_11.alloc EA0; have m1_z12 := m1_11.alloc EA0; have m2_z12 := m2_11.alloc EA0; have e0_z12 := e0_11.alloc EA0; have e1_z12 := e1_11.alloc EA0; have e2_z12 := e2.alloc EA0; have ba_z12 := ba_11.alloc EA0; have bb_z12 := bb_11.alloc EA0; have bp_z12 := bp_11.alloc EA0; have lz_ba := Nat.ne_of_lt ba_11.lt; have lz_bb := Nat.ne_of_lt bb_11.lt; have lz_bp := Nat.ne_of_lt bp_11.lt; have gl := F11.size; have F_z12 := F11.alloc F11.size EA0; have zb_11 := S12.new (w11) (.bool false) (.slice none 0 0) (.slice none 0 0) (.bool false) (.slice none 0 0) (.slice none 0 0) (.bool false) (.slice none 0 0) (.slice none 0 0) (.bool false) (.slice none 0 0) (.slice none 0 0); go_at_call 28; (with_reducible refine (mul_u _ _ q q' z3 _ HZ3.out kv_z12.iu ky_z12.iu lc ly).mono ?_); rintro e w12 ⟨u12, rfl, e3, b12⟩; have ku_12 := ku_z12.below b12; have kv_12 := kv_z12.below b12; have kx_12 := kx_z12.below b12; have ky_12 := ky_z12.below b12; have m1_12 := m1_z12.below b12; have m2_12 := m2_z12.below b12; have e0_12 := e0_z12.below b12; have e1_12 := e1_z12.below b12; have e2_12 := e2_z12.below b12; have ba_12 := ba_z12.below b12 ba_z12.lt; have bb_12 := bb_z12.below b12 bb_z12.lt; have bp_12 := bp_z12.below b12 bp_z12.lt; have F12 := below_then F_z12 (Nat.le_refl _) b12; have zb_12 := zb_11.below b12 zb_11.lt; have zk12_0 := zb_12.cell0; have zk12_1 := zb_12.cell1; have zk12_2 := zb_12.cell2; have zk12_3 := zb_12.cell3; have zk12_4 := zb_12.cell4; have zk12_5 := zb_12.cell5; have zk12_6 := zb_12.cell6; have zk12_7 := zb_12.cell7; have zk12_8 := zb_12.cell8; have zk12_9 := zb_12.cell9; have zk12_10 := zb_12.cell10; have zk12_11 := zb_12.cell11; have zf12_0 := zb_12.frozen 0; have zf12_1 := zb_12.frozen 1; have zf12_2 := zb_12.frozen 2; have zf12_3 := zb_12.frozen 3; have zf12_4 := zb_12.frozen 4; have zf12_5 := zb_12.frozen 5; have zf12_6 := zb_12.frozen 6; have zf12_7 := zb_12.frozen 7; have zf12_8 := zb_12.frozen 8; have zf12_9 := zb_12.frozen 9; have zf12_10 := zb_12.frozen 10; have zf12_11 := zb_12.frozen 11)
        | fail)
    all_goals (go_wp2_with fail; go_meet; first | exact ⟨_, _, u9, u10, u11, u12, rfl, rfl, zb_12.stor, gl, lz_ba, lz_bb, lz_bp, ba_12.past12 lz_ba, bb_12.past12 lz_bb, bp_12.past12 lz_bp, ku_12.stor12 zb_12 (.bool u9.s) (.slice u9.A u9.n u9.c) (.slice u9.B u9.m u9.d) (.bool u10.s) (.slice u10.A u10.n u10.c) (.slice u10.B u10.m u10.d) (.bool u11.s) (.slice u11.A u11.n u11.c) (.slice u11.B u11.m u11.d) (.bool u12.s) (.slice u12.A u12.n u12.c) (.slice u12.B u12.m u12.d), kv_12.stor12 zb_12 (.bool u9.s) (.slice u9.A u9.n u9.c) (.slice u9.B u9.m u9.d) (.bool u10.s) (.slice u10.A u10.n u10.c) (.slice u10.B u10.m u10.d) (.bool u11.s) (.slice u11.A u11.n u11.c) (.slice u11.B u11.m u11.d) (.bool u12.s) (.slice u12.A u12.n u12.c) (.slice u12.B u12.m u12.d), kx_12.stor12 zb_12 (.bool u9.s) (.slice u9.A u9.n u9.c) (.slice u9.B u9.m u9.d) (.bool u10.s) (.slice u10.A u10.n u10.c) (.slice u10.B u10.m u10.d) (.bool u11.s) (.slice u11.A u11.n u11.c) (.slice u11.B u11.m u11.d) (.bool u12.s) (.slice u12.A u12.n u12.c) (.slice u12.B u12.m u12.d), ky_12.stor12 zb_12 (.bool u9.s) (.slice u9.A u9.n u9.c) (.slice u9.B u9.m u9.d) (.bool u10.s) (.slice u10.A u10.n u10.c) (.slice u10.B u10.m u10.d) (.bool u11.s) (.slice u11.A u11.n u11.c) (.slice u11.B u11.m u11.d) (.bool u12.s) (.slice u12.A u12.n u12.c) (.slice u12.B u12.m u12.d), m1_12.stor12 zb_12 (.bool u9.s) (.slice u9.A u9.n u9.c) (.slice u9.B u9.m u9.d) (.bool u10.s) (.slice u10.A u10.n u10.c) (.slice u10.B u10.m u10.d) (.bool u11.s) (.slice u11.A u11.n u11.c) (.slice u11.B u11.m u11.d) (.bool u12.s) (.slice u12.A u12.n u12.c) (.slice u12.B u12.m u12.d), m2_12.stor12 zb_12 (.bool u9.s) (.slice u9.A u9.n u9.c) (.slice u9.B u9.m u9.d) (.bool u10.s) (.slice u10.A u10.n u10.c) (.slice u10.B u10.m u10.d) (.bool u11.s) (.slice u11.A u11.n u11.c) (.slice u11.B u11.m u11.d) (.bool u12.s) (.slice u12.A u12.n u12.c) (.slice u12.B u12.m u12.d), e0_12.stor12 zb_12 (.bool u9.s) (.slice u9.A u9.n u9.c) (.slice u9.B u9.m u9.d) (.bool u10.s) (.slice u10.A u10.n u10.c) (.slice u10.B u10.m u10.d) (.bool u11.s) (.slice u11.A u11.n u11.c) (.slice u11.B u11.m u11.d) (.bool u12.s) (.slice u12.A u12.n u12.c) (.slice u12.B u12.m u12.d), e1_12.stor12 zb_12 (.bool u9.s) (.slice u9.A u9.n u9.c) (.slice u9.B u9.m u9.d) (.bool u10.s) (.slice u10.A u10.n u10.c) (.slice u10.B u10.m u10.d) (.bool u11.s) (.slice u11.A u11.n u11.c) (.slice u11.B u11.m u11.d) (.bool u12.s) (.slice u12.A u12.n u12.c) (.slice u12.B u12.m u12.d), e2_12.stor12 zb_12 (.bool u9.s) (.slice u9.A u9.n u9.c) (.slice u9.B u9.m u9.d) (.bool u10.s) (.slice u10.A u10.n u10.c) (.slice u10.B u10.m u10.d) (.bool u11.s) (.slice u11.A u11.n u11.c) (.slice u11.B u11.m u11.d) (.bool u12.s) (.slice u12.A u12.n u12.c) (.slice u12.B u12.m u12.d), e3.stor12 zb_12 (.bool u9.s) (.slice u9.A u9.n u9.c) (.slice u9.B u9.m u9.d) (.bool u10.s) (.slice u10.A u10.n u10.c) (.slice u10.B u10.m u10.d) (.bool u11.s) (.slice u11.A u11.n u11.c) (.slice u11.B u11.m u11.d) (.bool u12.s) (.slice u12.A u12.n u12.c) (.slice u12.B u12.m u12.d), below_12 F12 gl⟩ | exact ⟨_, _, u9, u10, u11, u12, rfl, rfl, S12.new w12 (.bool u9.s) (.slice u9.A u9.n u9.c) (.slice u9.B u9.m u9.d) (.bool u10.s) (.slice u10.A u10.n u10.c) (.slice u10.B u10.m u10.d) (.bool u11.s) (.slice u11.A u11.n u11.c) (.slice u11.B u11.m u11.d) (.bool u12.s) (.slice u12.A u12.n u12.c) (.slice u12.B u12.m u12.d), F12.size, Nat.ne_of_lt ba_12.lt, Nat.ne_of_lt bb_12.lt, Nat.ne_of_lt bp_12.lt, ba_12.alloc (EA u9 u10 u11 u12), bb_12.alloc (EA u9 u10 u11 u12), bp_12.alloc (EA u9 u10 u11 u12), ku_12.alloc (EA u9 u10 u11 u12), kv_12.alloc (EA u9 u10 u11 u12), kx_12.alloc (EA u9 u10 u11 u12), ky_12.alloc (EA u9 u10 u11 u12), m1_12.alloc (EA u9 u10 u11 u12), m2_12.alloc (EA u9 u10 u11 u12), e0_12.alloc (EA u9 u10 u11 u12), e1_12.alloc (EA u9 u10 u11 u12), e2_12.alloc (EA u9 u10 u11 u12), e3.alloc (EA u9 u10 u11 u12), F12.alloc F12.size _⟩ | fail)
  case rest =>
    obtain ⟨wx7, g13, u9, u10, u11, u12, rfl, rfl, be_013, gl_13, ne_be_ba, ne_be_bb, ne_be_bp, ba_13, bb_13, bp_13, ku_13, kv_13, kx_13, ky_13, m1_13, m2_13, e0_13, e1_13, e2_13, e3_13, F13⟩ := hcut
    have be_13 : Sa wx7 g13 u9 u10 u11 u12 := be_013
    clear be_013
    have ba_u13 := ba_13.cell0
    have ba_v13 := ba_13.cell1
    have ba_w13 := ba_13.cell2
    have ba_x13 := ba_13.cell3
    have ba_y13 := ba_13.cell4
    have ba_z13 := ba_13.cell5
    have bb_u13 := bb_13.cell0
    have bb_v13 := bb_13.cell1
    have bb_w13 := bb_13.cell2
    have bb_x13 := bb_13.cell3
    have bb_y13 := bb_13.cell4
    have bb_z13 := bb_13.cell5
    have bp_u13 := bp_13.cell0
    have bp_v13 := bp_13.cell1
    have bp_w13 := bp_13.cell2
    have bp_x13 := bp_13.cell3
    have bp_y13 := bp_13.cell4
    have bp_z13 := bp_13.cell5
    have be_u13 := be_13.cell0
    have be_v13 := be_13.cell1
    have be_w13 := be_13.cell2
    have be_x13 := be_13.cell3
    have be_y13 := be_13.cell4
    have be_z13 := be_13.cell5
    have be_a13 := be_13.cell6
    have be_b13 := be_13.cell7
    have be_c13 := be_13.cell8
    have be_d13 := be_13.cell9
    have be_e13 := be_13.cell10
    have be_f13 := be_13.cell11
    go_wp2_with fail
    go_loopw [7, 8, 9] (fun s7 s8 s9 wr => ∃ (i : Nat) (lo hi : Bool), i ≤ 4 ∧ s7 = .bool lo ∧ s8 = .bool hi ∧ s9 = .int .i64 (i : Int) ∧ Sv wr (w6.heap.size) u6 v6 ∧ Sa wr (g13) u9 u10 u11 u12 ∧ Cu wr u6 A1 ∧ Cu wr v6 B1 ∧ Cu wr u9 z0 ∧ Cu wr u10 z1 ∧ Cu wr u11 z2 ∧ Cu wr u12 z3 ∧ Below w.heap.size w wr ∧ Hid (lo = seen A1 z0 z1 z2 z3 i ∧ hi = seen B1 z0 z1 z2 z3 i)) (fun _ _ s9 _ => 4 - (intOf s9).toNat)
    case atStart => exact ⟨0, false, false, by omega, rfl, rfl, rfl, bp_13, be_13, m1_13, m2_13, e0_13, e1_13, e2_13, e3_13, F13, hide ⟨rfl, rfl⟩⟩
    case round =>
      obtain ⟨i, lo, hi, hi4, rfl, rfl, rfl, Hp, He, K1, K2, E0, E1, E2, E3, FB, HR⟩ := hrel
      rcases (show i = 0 ∨ i = 1 ∨ i = 2 ∨ i = 3 ∨ i = 4 by omega) with rfl | rfl | rfl | rfl | rfl
      · rcases lo with _ | _
        · rcases hi with _ | _
          · obtain ⟨rl, hrl⟩ : ∃ r, decide (A1 = z0) = r := ⟨_, rfl⟩
            obtain ⟨rh, hrh⟩ : ∃ r, decide (B1 = z0) = r := ⟨_, rfl⟩
            have HRL := hide hrl
            have HRH := hide hrh
            clear hrl hrh
            have bp_u13 := Hp.cell0
            have bp_v13 := Hp.cell1
            have bp_w13 := Hp.cell2
            have bp_x13 := Hp.cell3
            have bp_y13 := Hp.cell4
            have bp_z13 := Hp.cell5
            have be_u13 := He.cell0
            have be_v13 := He.cell1
            have be_w13 := He.cell2
            have be_x13 := He.cell3
            have be_y13 := He.cell4
            have be_z13 := He.cell5
            have be_a13 := He.cell6
            have be_b13 := He.cell7
            have be_c13 := He.cell8
            have be_d13 := He.cell9
            have be_e13 := He.cell10
            have be_f13 := He.cell11
            go_wp2_with fail
            have m1_14 := K1.drew
            have m2_14 := K2.drew
            have e0_14 := E0.drew
            have e1_14 := E1.drew
            have e2_14 := E2.drew
            have e3_14 := E3.drew
            have bp_14 := Hp.drew
            have be_14 := He.drew
            have F14 := FB.drew
            go_region_held3 (fun w' => w'.cell? ⟨w6.heap.size, 0, none⟩ = some (.bool u6.s) ∧ w'.cell? ⟨w6.heap.size, 1, none⟩ = some (.slice u6.A u6.n u6.c) ∧ w'.cell? ⟨w6.heap.size, 2, none⟩ = some (.slice u6.B u6.m u6.d) ∧ w'.cell? ⟨w6.heap.size, 3, none⟩ = some (.bool v6.s) ∧ w'.cell? ⟨w6.heap.size, 4, none⟩ = some (.slice v6.A v6.n v6.c) ∧ w'.cell? ⟨w6.heap.size, 5, none⟩ = some (.slice v6.B v6.m v6.d) ∧ w'.cell? ⟨g13, 0, none⟩ = some (.bool u9.s) ∧ w'.cell? ⟨g13, 1, none⟩ = some (.slice u9.A u9.n u9.c) ∧ w'.cell? ⟨g13, 2, none⟩ = some (.slice u9.B u9.m u9.d) ∧ w'.cell? ⟨g13, 3, none⟩ = some (.bool u10.s) ∧ w'.cell? ⟨g13, 4, none⟩ = some (.slice u10.A u10.n u10.c) ∧ w'.cell? ⟨g13, 5, none⟩ = some (.slice u10.B u10.m u10.d) ∧ w'.cell? ⟨g13, 6, none⟩ = some (.bool u11.s) ∧ w'.cell? ⟨g13, 7, none⟩ = some (.slice u11.A u11.n u11.c) ∧ w'.cell? ⟨g13, 8, none⟩ = some (.slice u11.B u11.m u11.d) ∧ w'.cell? ⟨g13, 9, none⟩ = some (.bool u12.s) ∧ w'.cell? ⟨g13, 10, none⟩ = some (.slice u12.A u12.n u12.c) ∧ w'.cell? ⟨g13, 11, none⟩ = some (.slice u12.B u12.m u12.d))
              (first
                | with_reducible exact ⟨bp_15.cell0, bp_15.cell1, bp_15.cell2, bp_15.cell3, bp_15.cell4, bp_15.cell5, be_15.cell0, be_15.cell1, be_15.cell2, be_15.cell3, be_15.cell4, be_15.cell5, be_15.cell6, be_15.cell7, be_15.cell8, be_15.cell9, be_15.cell10, be_15.cell11⟩
                | with_reducible exact ⟨bp_14.cell0, bp_14.cell1, bp_14.cell2, bp_14.cell3, bp_14.cell4, bp_14.cell5, be_14.cell0, be_14.cell1, be_14.cell2, be_14.cell3, be_14.cell4, be_14.cell5, be_14.cell6, be_14.cell7, be_14.cell8, be_14.cell9, be_14.cell10, be_14.cell11⟩
                | fail)
              (first
                | (go_at_call 34; (with_reducible refine (sameb_u _ _ A1 z0 rl _ HRL.out m1_14 e0_14 ((m1_14.len sA1).mono k4) ((e0_14.len t1).mono k4)).mono ?_); rintro e w15 ⟨rfl, b15⟩; have m1_15 := m1_14.below b15; have m2_15 := m2_14.below b15; have e0_15 := e0_14.below b15; have e1_15 := e1_14.below b15; have e2_15 := e2_14.below b15; have e3_15 := e3_14.below b15; have bp_15 := bp_14.below b15 bp_14.lt; have be_15 := be_14.below b15 be_14.lt; have F15 := below_then F14 (Nat.le_refl _) b15)
                | fail)
            have bp_u15 := bp_15.cell0
            have bp_v15 := bp_15.cell1
            have bp_w15 := bp_15.cell2
            have bp_x15 := bp_15.cell3
            have bp_y15 := bp_15.cell4
            have bp_z15 := bp_15.cell5
            have be_u15 := be_15.cell0
            have be_v15 := be_15.cell1
            have be_w15 := be_15.cell2
            have be_x15 := be_15.cell3
            have be_y15 := be_15.cell4
            have be_z15 := be_15.cell5
            have be_a15 := be_15.cell6
            have be_b15 := be_15.cell7
            have be_c15 := be_15.cell8
            have be_d15 := be_15.cell9
            have be_e15 := be_15.cell10
            have be_f15 := be_15.cell11
            go_wp2_with fail
            have m1_16 := m1_15.drew
            have m2_16 := m2_15.drew
            have e0_16 := e0_15.drew
            have e1_16 := e1_15.drew
            have e2_16 := e2_15.drew
            have e3_16 := e3_15.drew
            have bp_16 := bp_15.drew
            have be_16 := be_15.drew
            have F16 := F15.drew
            go_region_held3 (fun w' => w'.cell? ⟨w6.heap.size, 0, none⟩ = some (.bool u6.s) ∧ w'.cell? ⟨w6.heap.size, 1, none⟩ = some (.slice u6.A u6.n u6.c) ∧ w'.cell? ⟨w6.heap.size, 2, none⟩ = some (.slice u6.B u6.m u6.d) ∧ w'.cell? ⟨w6.heap.size, 3, none⟩ = some (.bool v6.s) ∧ w'.cell? ⟨w6.heap.size, 4, none⟩ = some (.slice v6.A v6.n v6.c) ∧ w'.cell? ⟨w6.heap.size, 5, none⟩ = some (.slice v6.B v6.m v6.d) ∧ w'.cell? ⟨g13, 0, none⟩ = some (.bool u9.s) ∧ w'.cell? ⟨g13, 1, none⟩ = some (.slice u9.A u9.n u9.c) ∧ w'.cell? ⟨g13, 2, none⟩ = some (.slice u9.B u9.m u9.d) ∧ w'.cell? ⟨g13, 3, none⟩ = some (.bool u10.s) ∧ w'.cell? ⟨g13, 4, none⟩ = some (.slice u10.A u10.n u10.c) ∧ w'.cell? ⟨g13, 5, none⟩ = some (.slice u10.B u10.m u10.d) ∧ w'.cell? ⟨g13, 6, none⟩ = some (.bool u11.s) ∧ w'.cell? ⟨g13, 7, none⟩ = some (.slice u11.A u11.n u11.c) ∧ w'.cell? ⟨g13, 8, none⟩ = some (.slice u11.B u11.m u11.d) ∧ w'.cell? ⟨g13, 9, none⟩ = some (.bool u12.s) ∧ w'.cell? ⟨g13, 10, none⟩ = some (.slice u12.A u12.n u12.c) ∧ w'.cell? ⟨g13, 11, none⟩ = some (.slice u12.B u12.m u12.d))
              (first
                | with_reducible exact ⟨bp_17.cell0, bp_17.cell1, bp_17.cell2, bp_17.cell3, bp_17.cell4, bp_17.cell5, be_17.cell0, be_17.cell1, be_17.cell2, be_17.cell3, be_17.cell4, be_17.cell5, be_17.cell6, be_17.cell7, be_17.cell8, be_17.cell9, be_17.cell10, be_17.cell11⟩
                | with_reducible exact ⟨bp_16.cell0, bp_16.cell1, bp_16.cell2, bp_16.cell3, bp_16.cell4, bp_16.cell5, be_16.cell0, be_16.cell1, be_16.cell2, be_16.cell3, be_16.cell4, be_16.cell5, be_16.cell6, be_16.cell7, be_16.cell8, be_16.cell9, be_16.cell10, be_16.cell11⟩
                | fail)
              (first
                | (go_at_call 34; (with_reducible refine (sameb_u _ _ B1 z0 rh _ HRH.out m2_16 e0_16 ((m2_16.len sB1).mono k4) ((e0_16.len t1).mono k4)).mono ?_); rintro e w17 ⟨rfl, b17⟩; have m1_17 := m1_16.below b17; have m2_17 := m2_16.below b17; have e0_17 := e0_16.below b17; have e1_17 := e1_16.below b17; have e2_17 := e2_16.below b17; have e3_17 := e3_16.below b17; have bp_17 := bp_16.below b17 bp_16.lt; have be_17 := be_16.below b17 be_16.lt; have F17 := below_then F16 (Nat.le_refl _) b17)
                | fail)
            have bp_u17 := bp_17.cell0
            have bp_v17 := bp_17.cell1
            have bp_w17 := bp_17.cell2
            have bp_x17 := bp_17.cell3
            have bp_y17 := bp_17.cell4
            have bp_z17 := bp_17.cell5
            have be_u17 := be_17.cell0
            have be_v17 := be_17.cell1
            have be_w17 := be_17.cell2
            have be_x17 := be_17.cell3
            have be_y17 := be_17.cell4
            have be_z17 := be_17.cell5
            have be_a17 := be_17.cell6
            have be_b17 := be_17.cell7
            have be_c17 := be_17.cell8
            have be_d17 := be_17.cell9
            have be_e17 := be_17.cell10
            have be_f17 := be_17.cell11
            go_wp2
            go_roundw
            case rel => exact ⟨1, rl, rh, by omega, rfl, rfl, rfl, bp_17, be_17, m1_17, m2_17, e0_17, e1_17, e2_17, e3_17, F17, hide ⟨seen_s0 HR.out.1 (.inr ⟨rfl, HRL.out⟩), seen_s0 HR.out.2 (.inr ⟨rfl, HRH.out⟩)⟩⟩
            case measure => simp only [intOf]; omega
          · obtain ⟨rl, hrl⟩ : ∃ r, decide (A1 = z0) = r := ⟨_, rfl⟩
            obtain ⟨rh, hrh⟩ : ∃ r, decide (B1 = z0) = r := ⟨_, rfl⟩
            have HRL := hide hrl
            have HRH := hide hrh
            clear hrl hrh
            have bp_u17 := Hp.cell0
            have bp_v17 := Hp.cell1
            have bp_w17 := Hp.cell2
            have bp_x17 := Hp.cell3
            have bp_y17 := Hp.cell4
            have bp_z17 := Hp.cell5
            have be_u17 := He.cell0
            have be_v17 := He.cell1
            have be_w17 := He.cell2
            have be_x17 := He.cell3
            have be_y17 := He.cell4
            have be_z17 := He.cell5
            have be_a17 := He.cell6
            have be_b17 := He.cell7
            have be_c17 := He.cell8
            have be_d17 := He.cell9
            have be_e17 := He.cell10
            have be_f17 := He.cell11
            go_wp2_with fail
            have m1_18 := K1.drew
            have m2_18 := K2.drew
            have e0_18 := E0.drew
            have e1_18 := E1.drew
            have e2_18 := E2.drew
            have e3_18 := E3.drew
            have bp_18 := Hp.drew
            have be_18 := He.drew
            have F18 := FB.drew
            go_region_held3 (fun w' => w'.cell? ⟨w6.heap.size, 0, none⟩ = some (.bool u6.s) ∧ w'.cell? ⟨w6.heap.size, 1, none⟩ = some (.slice u6.A u6.n u6.c) ∧ w'.cell? ⟨w6.heap.size, 2, none⟩ = some (.slice u6.B u6.m u6.d) ∧ w'.cell? ⟨w6.heap.size, 3, none⟩ = some (.bool v6.s) ∧ w'.cell? ⟨w6.heap.size, 4, none⟩ = some (.slice v6.A v6.n v6.c) ∧ w'.cell? ⟨w6.heap.size, 5, none⟩ = some (.slice v6.B v6.m v6.d) ∧ w'.cell? ⟨g13, 0, none⟩ = some (.bool u9.s) ∧ w'.cell? ⟨g13, 1, none⟩ = some (.slice u9.A u9.n u9.c) ∧ w'.cell? ⟨g13, 2, none⟩ = some (.slice u9.B u9.m u9.d) ∧ w'.cell? ⟨g13, 3, none⟩ = some (.bool u10.s) ∧ w'.cell? ⟨g13, 4, none⟩ = some (.slice u10.A u10.n u10.c) ∧ w'.cell? ⟨g13, 5, none⟩ = some (.slice u10.B u10.m u10.d) ∧ w'.cell? ⟨g13, 6, none⟩ = some (.bool u11.s) ∧ w'.cell? ⟨g13, 7, none⟩ = some (.slice u11.A u11.n u11.c) ∧ w'.cell? ⟨g13, 8, none⟩ = some (.slice u11.B u11.m u11.d) ∧ w'.cell? ⟨g13, 9, none⟩ = some (.bool u12.s) ∧ w'.cell? ⟨g13, 10, none⟩ = some (.slice u12.A u12.n u12.c) ∧ w'.cell? ⟨g13, 11, none⟩ = some (.slice u12.B u12.m u12.d))
              (first
                | with_reducible exact ⟨bp_19.cell0, bp_19.cell1, bp_19.cell2, bp_19.cell3, bp_19.cell4, bp_19.cell5, be_19.cell0, be_19.cell1, be_19.cell2, be_19.cell3, be_19.cell4, be_19.cell5, be_19.cell6, be_19.cell7, be_19.cell8, be_19.cell9, be_19.cell10, be_19.cell11⟩
                | with_reducible exact ⟨bp_18.cell0, bp_18.cell1, bp_18.cell2, bp_18.cell3, bp_18.cell4, bp_18.cell5, be_18.cell0, be_18.cell1, be_18.cell2, be_18.cell3, be_18.cell4, be_18.cell5, be_18.cell6, be_18.cell7, be_18.cell8, be_18.cell9, be_18.cell10, be_18.cell11⟩
                | fail)
              (first
                | (go_at_call 34; (with_reducible refine (sameb_u _ _ A1 z0 rl _ HRL.out m1_18 e0_18 ((m1_18.len sA1).mono k4) ((e0_18.len t1).mono k4)).mono ?_); rintro e w19 ⟨rfl, b19⟩; have m1_19 := m1_18.below b19; have m2_19 := m2_18.below b19; have e0_19 := e0_18.below b19; have e1_19 := e1_18.below b19; have e2_19 := e2_18.below b19; have e3_19 := e3_18.below b19; have bp_19 := bp_18.below b19 bp_18.lt; have be_19 := be_18.below b19 be_18.lt; have F19 := below_then F18 (Nat.le_refl _) b19)
                | fail)
            have bp_u19 := bp_19.cell0
            have bp_v19 := bp_19.cell1
            have bp_w19 := bp_19.cell2
            have bp_x19 := bp_19.cell3
            have bp_y19 := bp_19.cell4
            have bp_z19 := bp_19.cell5
            have be_u19 := be_19.cell0
            have be_v19 := be_19.cell1
            have be_w19 := be_19.cell2
            have be_x19 := be_19.cell3
            have be_y19 := be_19.cell4
            have be_z19 := be_19.cell5
            have be_a19 := be_19.cell6
            have be_b19 := be_19.cell7
            have be_c19 := be_19.cell8
            have be_d19 := be_19.cell9
            have be_e19 := be_19.cell10
            have be_f19 := be_19.cell11
            go_wp2_with fail
            have m1_20 := m1_19.drew
            have m2_20 := m2_19.drew
            have e0_20 := e0_19.drew
            have e1_20 := e1_19.drew
            have e2_20 := e2_19.drew
            have e3_20 := e3_19.drew
            have bp_20 := bp_19.drew
            have be_20 := be_19.drew
            have F20 := F19.drew
            refine wp_region_held_drew (S := fun w' => w'.cell? ⟨w6.heap.size, 0, none⟩ = some (.bool u6.s) ∧ w'.cell? ⟨w6.heap.size, 1, none⟩ = some (.slice u6.A u6.n u6.c) ∧ w'.cell? ⟨w6.heap.size, 2, none⟩ = some (.slice u6.B u6.m u6.d) ∧ w'.cell? ⟨w6.heap.size, 3, none⟩ = some (.bool v6.s) ∧ w'.cell? ⟨w6.heap.size, 4, none⟩ = some (.slice v6.A v6.n v6.c) ∧ w'.cell? ⟨w6.heap.size, 5, none⟩ = some (.slice v6.B v6.m v6.d) ∧ w'.cell? ⟨g13, 0, none⟩ = some (.bool u9.s) ∧ w'.cell? ⟨g13, 1, none⟩ = some (.slice u9.A u9.n u9.c) ∧ w'.cell? ⟨g13, 2, none⟩ = some (.slice u9.B u9.m u9.d) ∧ w'.cell? ⟨g13, 3, none⟩ = some (.bool u10.s) ∧ w'.cell? ⟨g13, 4, none⟩ = some (.slice u10.A u10.n u10.c) ∧ w'.cell? ⟨g13, 5, none⟩ = some (.slice u10.B u10.m u10.d) ∧ w'.cell? ⟨g13, 6, none⟩ = some (.bool u11.s) ∧ w'.cell? ⟨g13, 7, none⟩ = some (.slice u11.A u11.n u11.c) ∧ w'.cell? ⟨g13, 8, none⟩ = some (.slice u11.B u11.m u11.d) ∧ w'.cell? ⟨g13, 9, none⟩ = some (.bool u12.s) ∧ w'.cell? ⟨g13, 10, none⟩ = some (.slice u12.A u12.n u12.c) ∧ w'.cell? ⟨g13, 11, none⟩ = some (.slice u12.B u12.m u12.d)) (by kernel_rfl) ?_ (fun hHeld => ?_)
            · (try dsimp only); exact ⟨bp_20.cell0, bp_20.cell1, bp_20.cell2, bp_20.cell3, bp_20.cell4, bp_20.cell5, be_20.cell0, be_20.cell1, be_20.cell2, be_20.cell3, be_20.cell4, be_20.cell5, be_20.cell6, be_20.cell7, be_20.cell8, be_20.cell9, be_20.cell10, be_20.cell11⟩
            refine wpAnyH_take (i := 0) (v := ?_) rfl (by kernel_rfl) (by kernel_rfl) (by kernel_rfl) (fun _ _ _ h => h) (Or.inl ⟨by rfl, ?_⟩) (by assumption) ?_
            rotate_left 1
            · (intro w9 hSw; (try dsimp only at hSw); go_simp; try with_reducible rfl)
            try simp only [Act.put, List.getElem_toArray, List.getElem_cons_succ, List.getElem_cons_zero, List.setIfInBounds_toArray, List.set_cons_zero, List.set_cons_succ]
            refine wpAnyH_take (i := 1) (v := ?_) rfl (by kernel_rfl) (by kernel_rfl) (by kernel_rfl) (fun _ _ _ h => h) (Or.inl ⟨by rfl, ?_⟩) (by assumption) ?_
            rotate_left 1
            · (intro w9 hSw; (try dsimp only at hSw); go_simp; try with_reducible rfl)
            try simp only [Act.put, List.getElem_toArray, List.getElem_cons_succ, List.getElem_cons_zero, List.setIfInBounds_toArray, List.set_cons_zero, List.set_cons_succ]
            refine wpAnyH_take (i := 2) (v := undef) rfl (by kernel_rfl) (by kernel_rfl) (by kernel_rfl) (fun _ _ _ h => h) (Or.inr ⟨by rfl, rfl⟩) (by assumption) ?_
            try simp only [Act.put, List.getElem_toArray, List.getElem_cons_succ, List.getElem_cons_zero, List.setIfInBounds_toArray, List.set_cons_zero, List.set_cons_succ]
            refine wpAnyH_take (i := 3) (v := undef) rfl (by kernel_rfl) (by kernel_rfl) (by kernel_rfl) (fun _ _ _ h => h) (Or.inr ⟨by rfl, rfl⟩) (by assumption) ?_
            try simp only [Act.put, List.getElem_toArray, List.getElem_cons_succ, List.getElem_cons_zero, List.setIfInBounds_toArray, List.set_cons_zero, List.set_cons_succ]
            refine wpAnyH_take (i := 4) (v := undef) rfl (by kernel_rfl) (by kernel_rfl) (by kernel_rfl) (fun _ _ _ h => h) (Or.inr ⟨by rfl, rfl⟩) (by assumption) ?_
            try simp only [Act.put, List.getElem_toArray, List.getElem_cons_succ, List.getElem_cons_zero, List.setIfInBounds_toArray, List.set_cons_zero, List.set_cons_succ]
            refine wpAnyH_take (i := 5) (v := undef) rfl (by kernel_rfl) (by kernel_rfl) (by kernel_rfl) (fun _ _ _ h => h) (Or.inr ⟨by rfl, rfl⟩) (by assumption) ?_
            try simp only [Act.put, List.getElem_toArray, List.getElem_cons_succ, List.getElem_cons_zero, List.setIfInBounds_toArray, List.set_cons_zero, List.set_cons_succ]
            refine wpAnyH_take (i := 6) (v := undef) rfl (by kernel_rfl) (by kernel_rfl) (by kernel_rfl) (fun _ _ _ h => h) (Or.inr ⟨by rfl, rfl⟩) (by assumption) ?_
            try simp only [Act.put, List.getElem_toArray, List.getElem_cons_succ, List.getElem_cons_zero, List.setIfInBounds_toArray, List.set_cons_zero, List.set_cons_succ]
            refine wpAnyH_take (i := 7) (v := undef) rfl (by kernel_rfl) (by kernel_rfl) (by kernel_rfl) (fun _ _ _ h => h) (Or.inr ⟨by rfl, rfl⟩) (by assumption) ?_
            try simp only [Act.put, List.getElem_toArray, List.getElem_cons_succ, List.getElem_cons_zero, List.setIfInBounds_toArray, List.set_cons_zero, List.set_cons_succ]
            refine wpAnyH_take (i := 8) (v := ?_) rfl (by kernel_rfl) (by kernel_rfl) (by kernel_rfl) (fun _ _ _ h => h) (Or.inl ⟨by rfl, ?_⟩) (by assumption) ?_
            rotate_left 1
            · (intro w9 hSw; (try dsimp only at hSw); go_simp; try with_reducible rfl)
            try simp only [Act.put, List.getElem_toArray, List.getElem_cons_succ, List.getElem_cons_zero, List.setIfInBounds_toArray, List.set_cons_zero, List.set_cons_succ]
            refine wpAnyH_take (i := 9) (v := ?_) rfl (by kernel_rfl) (by kernel_rfl) (by kernel_rfl) (fun _ _ _ h => h) (Or.inl ⟨by rfl, ?_⟩) (by assumption) ?_
            rotate_left 1
            · (intro w9 hSw; (try dsimp only at hSw); go_simp; try with_reducible rfl)
            try simp only [Act.put, List.getElem_toArray, List.getElem_cons_succ, List.getElem_cons_zero, List.setIfInBounds_toArray, List.set_cons_zero, List.set_cons_succ]
            refine wpAnyH_done (by kernel_rfl) ?_ _
            go_wp2
            go_roundw
            case rel => exact ⟨1, rl, true, by omega, rfl, rfl, rfl, bp_20, be_20, m1_20, m2_20, e0_20, e1_20, e2_20, e3_20, F20, hide ⟨seen_s0 HR.out.1 (.inr ⟨rfl, HRL.out⟩), seen_s0 HR.out.2 (.inl ⟨rfl, rfl⟩)⟩⟩
            case measure => simp only [intOf]; omega
        · rcases hi with _ | _
          · obtain ⟨rl, hrl⟩ : ∃ r, decide (A1 = z0) = r := ⟨_, rfl⟩
            obtain ⟨rh, hrh⟩ : ∃ r, decide (B1 = z0) = r := ⟨_, rfl⟩
            have HRL := hide hrl
            have HRH := hide hrh
            clear hrl hrh
            have bp_u20 := Hp.cell0
            have bp_v20 := Hp.cell1
            have bp_w20 := Hp.cell2
            have bp_x20 := Hp.cell3
            have bp_y20 := Hp.cell4
            have bp_z20 := Hp.cell5
            have be_u20 := He.cell0
            have be_v20 := He.cell1
            have be_w20 := He.cell2
            have be_x20 := He.cell3
            have be_y20 := He.cell4
            have be_z20 := He.cell5
            have be_a20 := He.cell6
            have be_b20 := He.cell7
            have be_c20 := He.cell8
            have be_d20 := He.cell9
            have be_e20 := He.cell10
            have be_f20 := He.cell11
            go_wp2_with fail
            have m1_21 := K1.drew
            have m2_21 := K2.drew
            have e0_21 := E0.drew
            have e1_21 := E1.drew
            have e2_21 := E2.drew
            have e3_21 := E3.drew
            have bp_21 := Hp.drew
            have be_21 := He.drew
            have F21 := FB.drew
            refine wp_region_held_drew (S := fun w' => w'.cell? ⟨w6.heap.size, 0, none⟩ = some (.bool u6.s) ∧ w'.cell? ⟨w6.heap.size, 1, none⟩ = some (.slice u6.A u6.n u6.c) ∧ w'.cell? ⟨w6.heap.size, 2, none⟩ = some (.slice u6.B u6.m u6.d) ∧ w'.cell? ⟨w6.heap.size, 3, none⟩ = some (.bool v6.s) ∧ w'.cell? ⟨w6.heap.size, 4, none⟩ = some (.slice v6.A v6.n v6.c) ∧ w'.cell? ⟨w6.heap.size, 5, none⟩ = some (.slice v6.B v6.m v6.d) ∧ w'.cell? ⟨g13, 0, none⟩ = some (.bool u9.s) ∧ w'.cell? ⟨g13, 1, none⟩ = some (.slice u9.A u9.n u9.c) ∧ w'.cell? ⟨g13, 2, none⟩ = some (.slice u9.B u9.m u9.d) ∧ w'.cell? ⟨g13, 3, none⟩ = some (.bool u10.s) ∧ w'.cell? ⟨g13, 4, none⟩ = some (.slice u10.A u10.n u10.c) ∧ w'.cell? ⟨g13, 5, none⟩ = some (.slice u10.B u10.m u10.d) ∧ w'.cell? ⟨g13, 6, none⟩ = some (.bool u11.s) ∧ w'.cell? ⟨g13, 7, none⟩ = some (.slice u11.A u11.n u11.c) ∧ w'.cell? ⟨g13, 8, none⟩ = some (.slice u11.B u11.m u11.d) ∧ w'.cell? ⟨g13, 9, none⟩ = some (.bool u12.s) ∧ w'.cell? ⟨g13, 10, none⟩ = some (.slice u12.A u12.n u12.c) ∧ w'.cell? ⟨g13, 11, none⟩ = some (.slice u12.B u12.m u12.d)) (by kernel_rfl) ?_ (fun hHeld => ?_)
            · (try dsimp only); exact ⟨bp_21.cell0, bp_21.cell1, bp_21.cell2, bp_21.cell3, bp_21.cell4, bp_21.cell5, be_21.cell0, be_21.cell1, be_21.cell2, be_21.cell3, be_21.cell4, be_21.cell5, be_21.cell6, be_21.cell7, be_21.cell8, be_21.cell9, be_21.cell10, be_21.cell11⟩
            refine wpAnyH_take (i := 0) (v := ?_) rfl (by kernel_rfl) (by kernel_rfl) (by kernel_rfl) (fun _ _ _ h => h) (Or.inl ⟨by rfl, ?_⟩) (by assumption) ?_
            rotate_left 1
            · (intro w9 hSw; (try dsimp only at hSw); go_simp; try with_reducible rfl)
            try simp only [Act.put, List.getElem_toArray, List.getElem_cons_succ, List.getElem_cons_zero, List.setIfInBounds_toArray, List.set_cons_zero, List.set_cons_succ]
            refine wpAnyH_take (i := 1) (v := ?_) rfl (by kernel_rfl) (by kernel_rfl) (by kernel_rfl) (fun _ _ _ h => h) (Or.inl ⟨by rfl, ?_⟩) (by assumption) ?_
            rotate_left 1
            · (intro w9 hSw; (try dsimp only at hSw); go_simp; try with_reducible rfl)
            try simp only [Act.put, List.getElem_toArray, List.getElem_cons_succ, List.getElem_cons_zero, List.setIfInBounds_toArray, List.set_cons_zero, List.set_cons_succ]
            refine wpAnyH_take (i := 2) (v := undef) rfl (by kernel_rfl) (by kernel_rfl) (by kernel_rfl) (fun _ _ _ h => h) (Or.inr ⟨by rfl, rfl⟩) (by assumption) ?_
            try simp only [Act.put, List.getElem_toArray, List.getElem_cons_succ, List.getElem_cons_zero, List.setIfInBounds_toArray, List.set_cons_zero, List.set_cons_succ]
            refine wpAnyH_take (i := 3) (v := undef) rfl (by kernel_rfl) (by kernel_rfl) (by kernel_rfl) (fun _ _ _ h => h) (Or.inr ⟨by rfl, rfl⟩) (by assumption) ?_
            try simp only [Act.put, List.getElem_toArray, List.getElem_cons_succ, List.getElem_cons_zero, List.setIfInBounds_toArray, List.set_cons_zero, List.set_cons_succ]
            refine wpAnyH_take (i := 4) (v := undef) rfl (by kernel_rfl) (by kernel_rfl) (by kernel_rfl) (fun _ _ _ h => h) (Or.inr ⟨by rfl, rfl⟩) (by assumption) ?_
            try simp only [Act.put, List.getElem_toArray, List.getElem_cons_succ, List.getElem_cons_zero, List.setIfInBounds_toArray, List.set_cons_zero, List.set_cons_succ]
            refine wpAnyH_take (i := 5) (v := undef) rfl (by kernel_rfl) (by kernel_rfl) (by kernel_rfl) (fun _ _ _ h => h) (Or.inr ⟨by rfl, rfl⟩) (by assumption) ?_
            try simp only [Act.put, List.getElem_toArray, List.getElem_cons_succ, List.getElem_cons_zero, List.setIfInBounds_toArray, List.set_cons_zero, List.set_cons_succ]
            refine wpAnyH_take (i := 6) (v := undef) rfl (by kernel_rfl) (by kernel_rfl) (by kernel_rfl) (fun _ _ _ h => h) (Or.inr ⟨by rfl, rfl⟩) (by assumption) ?_
            try simp only [Act.put, List.getElem_toArray, List.getElem_cons_succ, List.getElem_cons_zero, List.setIfInBounds_toArray, List.set_cons_zero, List.set_cons_succ]
            refine wpAnyH_take (i := 7) (v := undef) rfl (by kernel_rfl) (by kernel_rfl) (by kernel_rfl) (fun _ _ _ h => h) (Or.inr ⟨by rfl, rfl⟩) (by assumption) ?_
            try simp only [Act.put, List.getElem_toArray, List.getElem_cons_succ, List.getElem_cons_zero, List.setIfInBounds_toArray, List.set_cons_zero, List.set_cons_succ]
            refine wpAnyH_take (i := 8) (v := ?_) rfl (by kernel_rfl) (by kernel_rfl) (by kernel_rfl) (fun _ _ _ h => h) (Or.inl ⟨by rfl, ?_⟩) (by assumption) ?_
            rotate_left 1
            · (intro w9 hSw; (try dsimp only at hSw); go_simp; try with_reducible rfl)
            try simp only [Act.put, List.getElem_toArray, List.getElem_cons_succ, List.getElem_cons_zero, List.setIfInBounds_toArray, List.set_cons_zero, List.set_cons_succ]
            refine wpAnyH_take (i := 9) (v := ?_) rfl (by kernel_rfl) (by kernel_rfl) (by kernel_rfl) (fun _ _ _ h => h) (Or.inl ⟨by rfl, ?_⟩) (by assumption) ?_
            rotate_left 1
            · (intro w9 hSw; (try dsimp only at hSw); go_simp; try with_reducible rfl)
            try simp only [Act.put, List.getElem_toArray, List.getElem_cons_succ, List.getElem_cons_zero, List.setIfInBounds_toArray, List.set_cons_zero, List.set_cons_succ]
            refine wpAnyH_done (by kernel_rfl) ?_ _
            go_wp2_with fail
            have m1_22 := m1_21.drew
            have m2_22 := m2_21.drew
            have e0_22 := e0_21.drew
            have e1_22 := e1_21.drew
            have e2_22 := e2_21.drew
            have e3_22 := e3_21.drew
            have bp_22 := bp_21.drew
            have be_22 := be_21.drew
            have F22 := F21.drew
            go_region_held3 (fun w' => w'.cell? ⟨w6.heap.size, 0, none⟩ = some (.bool u6.s) ∧ w'.cell? ⟨w6.heap.size, 1, none⟩ = some (.slice u6.A u6.n u6.c) ∧ w'.cell? ⟨w6.heap.size, 2, none⟩ = some (.slice u6.B u6.m u6.d) ∧ w'.cell? ⟨w6.heap.size, 3, none⟩ = some (.bool v6.s) ∧ w'.cell? ⟨w6.heap.size, 4, none⟩ = some (.slice v6.A v6.n v6.c) ∧ w'.cell? ⟨w6.heap.size, 5, none⟩ = some (.slice v6.B v6.m v6.d) ∧ w'.cell? ⟨g13, 0, none⟩ = some (.bool u9.s) ∧ w'.cell? ⟨g13, 1, none⟩ = some (.slice u9.A u9.n u9.c) ∧ w'.cell? ⟨g13, 2, none⟩ = some (.slice u9.B u9.m u9.d) ∧ w'.cell? ⟨g13, 3, none⟩ = some (.bool u10.s) ∧ w'.cell? ⟨g13, 4, none⟩ = some (.slice u10.A u10.n u10.c) ∧ w'.cell? ⟨g13, 5, none⟩ = some (.slice u10.B u10.m u10.d) ∧ w'.cell? ⟨g13, 6, none⟩ = some (.bool u11.s) ∧ w'.cell? ⟨g13, 7, none⟩ = some (.slice u11.A u11.n u11.c) ∧ w'.cell? ⟨g13, 8, none⟩ = some (.slice u11.B u11.m u11.d) ∧ w'.cell? ⟨g13, 9, none⟩ = some (.bool u12.s) ∧ w'.cell? ⟨g13, 10, none⟩ = some (.slice u12.A u12.n u12.c) ∧ w'.cell? ⟨g13, 11, none⟩ = some (.slice u12.B u12.m u12.d))
              (first
                | with_reducible exact ⟨bp_23.cell0, bp_23.cell1, bp_23.cell2, bp_23.cell3, bp_23.cell4, bp_23.cell5, be_23.cell0, be_23.cell1, be_23.cell2, be_23.cell3, be_23.cell4, be_23.cell5, be_23.cell6, be_23.cell7, be_23.cell8, be_23.cell9, be_23.cell10, be_23.cell11⟩
                | with_reducible exact ⟨bp_22.cell0, bp_22.cell1, bp_22.cell2, bp_22.cell3, bp_22.cell4, bp_22.cell5, be_22.cell0, be_22.cell1, be_22.cell2, be_22.cell3, be_22.cell4, be_22.cell5, be_22.cell6, be_22.cell7, be_22.cell8, be_22.cell9, be_22.cell10, be_22.cell11⟩
                | fail)
              (first
                | (go_at_call 34; (with_reducible refine (sameb_u _ _ B1 z0 rh _ HRH.out m2_22 e0_22 ((m2_22.len sB1).mono k4) ((e0_22.len t1).mono k4)).mono ?_); rintro e w23 ⟨rfl, b23⟩; have m1_23 := m1_22.below b23; have m2_23 := m2_22.below b23; have e0_23 := e0_22.below b23; have e1_23 := e1_22.below b23; have e2_23 := e2_22.below b23; have e3_23 := e3_22.below b23; have bp_23 := bp_22.below b23 bp_22.lt; have be_23 := be_22.below b23 be_22.lt; have F23 := below_then F22 (Nat.le_refl _) b23)
                | fail)
            have bp_u23 := bp_23.cell0
            have bp_v23 := bp_23.cell1
            have bp_w23 := bp_23.cell2
            have bp_x23 := bp_23.cell3
            have bp_y23 := bp_23.cell4
            have bp_z23 := bp_23.cell5
            have be_u23 := be_23.cell0
            have be_v23 := be_23.cell1
            have be_w23 := be_23.cell2
            have be_x23 := be_23.cell3
            have be_y23 := be_23.cell4
            have be_z23 := be_23.cell5
            have be_a23 := be_23.cell6
            have be_b23 := be_23.cell7
            have be_c23 := be_23.cell8
            have be_d23 := be_23.cell9
            have be_e23 := be_23.cell10
            have be_f23 := be_23.cell11
            go_wp2
            go_roundw
            case rel => exact ⟨1, true, rh, by omega, rfl, rfl, rfl, bp_23, be_23, m1_23, m2_23, e0_23, e1_23, e2_23, e3_23, F23, hide ⟨seen_s0 HR.out.1 (.inl ⟨rfl, rfl⟩), seen_s0 HR.out.2 (.inr ⟨rfl, HRH.out⟩)⟩⟩
            case measure => simp only [intOf]; omega
          · obtain ⟨rl, hrl⟩ : ∃ r, decide (A1 = z0) = r := ⟨_, rfl⟩
            obtain ⟨rh, hrh⟩ : ∃ r, decide (B1 = z0) = r := ⟨_, rfl⟩
            have HRL := hide hrl
            have HRH := hide hrh
            clear hrl hrh
            have bp_u23 := Hp.cell0
            have bp_v23 := Hp.cell1
            have bp_w23 := Hp.cell2
            have bp_x23 := Hp.cell3
            have bp_y23 := Hp.cell4
            have bp_z23 := Hp.cell5
            have be_u23 := He.cell0
            have be_v23 := He.cell1
            have be_w23 := He.cell2
            have be_x23 := He.cell3
            have be_y23 := He.cell4
            have be_z23 := He.cell5
            have be_a23 := He.cell6
            have be_b23 := He.cell7
            have be_c23 := He.cell8
            have be_d23 := He.cell9
            have be_e23 := He.cell10
            have be_f23 := He.cell11
            go_wp2_with fail
            have m1_24 := K1.drew
            have m2_24 := K2.drew
            have e0_24 := E0.drew
            have e1_24 := E1.drew
            have e2_24 := E2.drew
            have e3_24 := E3.drew
            have bp_24 := Hp.drew
            have be_24 := He.drew
            have F24 := FB.drew
            refine wp_region_held_drew (S := fun w' => w'.cell? ⟨w6.heap.size, 0, none⟩ = some (.bool u6.s) ∧ w'.cell? ⟨w6.heap.size, 1, none⟩ = some (.slice u6.A u6.n u6.c) ∧ w'.cell? ⟨w6.heap.size, 2, none⟩ = some (.slice u6.B u6.m u6.d) ∧ w'.cell? ⟨w6.heap.size, 3, none⟩ = some (.bool v6.s) ∧ w'.cell? ⟨w6.heap.size, 4, none⟩ = some (.slice v6.A v6.n v6.c) ∧ w'.cell? ⟨w6.heap.size, 5, none⟩ = some (.slice v6.B v6.m v6.d) ∧ w'.cell? ⟨g13, 0, none⟩ = some (.bool u9.s) ∧ w'.cell? ⟨g13, 1, none⟩ = some (.slice u9.A u9.n u9.c) ∧ w'.cell? ⟨g13, 2, none⟩ = some (.slice u9.B u9.m u9.d) ∧ w'.cell? ⟨g13, 3, none⟩ = some (.bool u10.s) ∧ w'.cell? ⟨g13, 4, none⟩ = some (.slice u10.A u10.n u10.c) ∧ w'.cell? ⟨g13, 5, none⟩ = some (.slice u10.B u10.m u10.d) ∧ w'.cell? ⟨g13, 6, none⟩ = some (.bool u11.s) ∧ w'.cell? ⟨g13, 7, none⟩ = some (.slice u11.A u11.n u11.c) ∧ w'.cell? ⟨g13, 8, none⟩ = some (.slice u11.B u11.m u11.d) ∧ w'.cell? ⟨g13, 9, none⟩ = some (.bool u12.s) ∧ w'.cell? ⟨g13, 10, none⟩ = some (.slice u12.A u12.n u12.c) ∧ w'.cell? ⟨g13, 11, none⟩ = some (.slice u12.B u12.m u12.d)) (by kernel_rfl) ?_ (fun hHeld => ?_)
            · (try dsimp only); exact ⟨bp_24.cell0, bp_24.cell1, bp_24.cell2, bp_24.cell3, bp_24.cell4, bp_24.cell5, be_24.cell0, be_24.cell1, be_24.cell2, be_24.cell3, be_24.cell4, be_24.cell5, be_24.cell6, be_24.cell7, be_24.cell8, be_24.cell9, be_24.cell10, be_24.cell11⟩
            refine wpAnyH_take (i := 0) (v := ?_) rfl (by kernel_rfl) (by kernel_rfl) (by kernel_rfl) (fun _ _ _ h => h) (Or.inl ⟨by rfl, ?_⟩) (by assumption) ?_
            rotate_left 1
            · (intro w9 hSw; (try dsimp only at hSw); go_simp; try with_reducible rfl)
            try simp only [Act.put, List.getElem_toArray, List.getElem_cons_succ, List.getElem_cons_zero, List.setIfInBounds_toArray, List.set_cons_zero, List.set_cons_succ]
            refine wpAnyH_take (i := 1) (v := ?_) rfl (by kernel_rfl) (by kernel_rfl) (by kernel_rfl) (fun _ _ _ h => h) (Or.inl ⟨by rfl, ?_⟩) (by assumption) ?_
            rotate_left 1
            · (intro w9 hSw; (try dsimp only at hSw); go_simp; try with_reducible rfl)
            try simp only [Act.put, List.getElem_toArray, List.getElem_cons_succ, List.getElem_cons_zero, List.setIfInBounds_toArray, List.set_cons_zero, List.set_cons_succ]
            refine wpAnyH_take (i := 2) (v := undef) rfl (by kernel_rfl) (by kernel_rfl) (by kernel_rfl) (fun _ _ _ h => h) (Or.inr ⟨by rfl, rfl⟩) (by assumption) ?_
            try simp only [Act.put, List.getElem_toArray, List.getElem_cons_succ, List.getElem_cons_zero, List.setIfInBounds_toArray, List.set_cons_zero, List.set_cons_succ]
            refine wpAnyH_take (i := 3) (v := undef) rfl (by kernel_rfl) (by kernel_rfl) (by kernel_rfl) (fun _ _ _ h => h) (Or.inr ⟨by rfl, rfl⟩) (by assumption) ?_
            try simp only [Act.put, List.getElem_toArray, List.getElem_cons_succ, List.getElem_cons_zero, List.setIfInBounds_toArray, List.set_cons_zero, List.set_cons_succ]
            refine wpAnyH_take (i := 4) (v := undef) rfl (by kernel_rfl) (by kernel_rfl) (by kernel_rfl) (fun _ _ _ h => h) (Or.inr ⟨by rfl, rfl⟩) (by assumption) ?_
            try simp only [Act.put, List.getElem_toArray, List.getElem_cons_succ, List.getElem_cons_zero, List.setIfInBounds_toArray, List.set_cons_zero, List.set_cons_succ]
            refine wpAnyH_take (i := 5) (v := undef) rfl (by kernel_rfl) (by kernel_rfl) (by kernel_rfl) (fun _ _ _ h => h) (Or.inr ⟨by rfl, rfl⟩) (by assumption) ?_
            try simp only [Act.put, List.getElem_toArray, List.getElem_cons_succ, List.getElem_cons_zero, List.setIfInBounds_toArray, List.set_cons_zero, List.set_cons_succ]
            refine wpAnyH_take (i := 6) (v := undef) rfl (by kernel_rfl) (by kernel_rfl) (by kernel_rfl) (fun _ _ _ h => h) (Or.inr ⟨by rfl, rfl⟩) (by assumption) ?_
            try simp only [Act.put, List.getElem_toArray, List.getElem_cons_succ, List.getElem_cons_zero, List.setIfInBounds_toArray, List.set_cons_zero, List.set_cons_succ]
            refine wpAnyH_take (i := 7) (v := undef) rfl (by kernel_rfl) (by kernel_rfl) (by kernel_rfl) (fun _ _ _ h => h) (Or.inr ⟨by rfl, rfl⟩) (by assumption) ?_
            try simp only [Act.put, List.getElem_toArray, List.getElem_cons_succ, List.getElem_cons_zero, List.setIfInBounds_toArray, List.set_cons_zero, List.set_cons_succ]
            refine wpAnyH_take (i := 8) (v := ?_) rfl (by kernel_rfl) (by kernel_rfl) (by kernel_rfl) (fun _ _ _ h => h) (Or.inl ⟨by rfl, ?_⟩) (by assumption) ?_
            rotate_left 1
            · (intro w9 hSw; (try dsimp only at hSw); go_simp; try with_reducible rfl)
            try simp only [Act.put, List.getElem_toArray, List.getElem_cons_succ, List.getElem_cons_zero, List.setIfInBounds_toArray, List.set_cons_zero, List.set_cons_succ]
            refine wpAnyH_take (i := 9) (v := ?_) rfl (by kernel_rfl) (by kernel_rfl) (by kernel_rfl) (fun _ _ _ h => h) (Or.inl ⟨by rfl, ?_⟩) (by assumption) ?_
            rotate_left 1
            · (intro w9 hSw; (try dsimp only at hSw); go_simp; try with_reducible rfl)
            try simp only [Act.put, List.getElem_toArray, List.getElem_cons_succ, List.getElem_cons_zero, List.setIfInBounds_toArray, List.set_cons_zero, List.set_cons_succ]
            refine wpAnyH_done (by kernel_rfl) ?_ _
            go_wp2_with fail
            have m1_25 := m1_24.drew
            have m2_25 := m2_24.drew
            have e0_25 := e0_24.drew
            have e1_25 := e1_24.drew
            have e2_25 := e2_24.drew
            have e3_25 := e3_24.drew
            have bp_25 := bp_24.drew
            have be_25 := be_24.drew
            have F25 := F24.drew
            refine wp_region_held_drew (S := fun w' => w'.cell? ⟨w6.heap.size, 0, none⟩ = some (.bool u6.s) ∧ w'.cell? ⟨w6.heap.size, 1, none⟩ = some (.slice u6.A u6.n u6.c) ∧ w'.cell? ⟨w6.heap.size, 2, none⟩ = some (.slice u6.B u6.m u6.d) ∧ w'.cell? ⟨w6.heap.size, 3, none⟩ = some (.bool v6.s) ∧ w'.cell? ⟨w6.heap.size, 4, none⟩ = some (.slice v6.A v6.n v6.c) ∧ w'.cell? ⟨w6.heap.size, 5, none⟩ = some (.slice v6.B v6.m v6.d) ∧ w'.cell? ⟨g13, 0, none⟩ = some (.bool u9.s) ∧ w'.cell? ⟨g13, 1, none⟩ = some (.slice u9.A u9.n u9.c) ∧ w'.cell? ⟨g13, 2, none⟩ = some (.slice u9.B u9.m u9.d) ∧ w'.cell? ⟨g13, 3, none⟩ = some (.bool u10.s) ∧ w'.cell? ⟨g13, 4, none⟩ = some (.slice u10.A u10.n u10.c) ∧ w'.cell? ⟨g13, 5, none⟩ = some (.slice u10.B u10.m u10.d) ∧ w'.cell? ⟨g13, 6, none⟩ = some (.bool u11.s) ∧ w'.cell? ⟨g13, 7, none⟩ = some (.slice u11.A u11.n u11.c) ∧ w'.cell? ⟨g13, 8, none⟩ = some (.slice u11.B u11.m u11.d) ∧ w'.cell? ⟨g13, 9, none⟩ = some (.bool u12.s) ∧ w'.cell? ⟨g13, 10, none⟩ = some (.slice u12.A u12.n u12.c) ∧ w'.cell? ⟨g13, 11, none⟩ = some (.slice u12.B u12.m u12.d)) (by kernel_rfl) ?_ (fun hHeld => ?_)
            · (try dsimp only); exact ⟨bp_25.cell0, bp_25.cell1, bp_25.cell2, bp_25.cell3, bp_25.cell4, bp_25.cell5, be_25.cell0, be_25.cell1, be_25.cell2, be_25.cell3, be_25.cell4, be_25.cell5, be_25.cell6, be_25.cell7, be_25.cell8, be_25.cell9, be_25.cell10, be_25.cell11⟩
            refine wpAnyH_take (i := 0) (v := ?_) rfl (by kernel_rfl) (by kernel_rfl) (by kernel_rfl) (fun _ _ _ h => h) (Or.inl ⟨by rfl, ?_⟩) (by assumption) ?_
            rotate_left 1
            · (intro w9 hSw; (try dsimp only at hSw); go_simp; try with_reducible rfl)
            try simp only [Act.put, List.getElem_toArray, List.getElem_cons_succ, List.getElem_cons_zero, List.setIfInBounds_toArray, List.set_cons_zero, List.set_cons_succ]
            refine wpAnyH_take (i := 1) (v := ?_) rfl (by kernel_rfl) (by kernel_rfl) (by kernel_rfl) (fun _ _ _ h => h) (Or.inl ⟨by rfl, ?_⟩) (by assumption) ?_
            rotate_left 1
            · (intro w9 hSw; (try dsimp only at hSw); go_simp; try with_reducible rfl)
            try simp only [Act.put, List.getElem_toArray, List.getElem_cons_succ, List.getElem_cons_zero, List.setIfInBounds_toArray, List.set_cons_zero, List.set_cons_succ]
            refine wpAnyH_take (i := 2) (v := undef) rfl (by kernel_rfl) (by kernel_rfl) (by kernel_rfl) (fun _ _ _ h => h) (Or.inr ⟨by rfl, rfl⟩) (by assumption) ?_
            try simp only [Act.put, List.getElem_toArray, List.getElem_cons_succ, List.getElem_cons_zero, List.setIfInBounds_toArray, List.set_cons_zero, List.set_cons_succ]
            refine wpAnyH_take (i := 3) (v := undef) rfl (by kernel_rfl) (by kernel_rfl) (by kernel_rfl) (fun _ _ _ h => h) (Or.inr ⟨by rfl, rfl⟩) (by assumption) ?_
            try simp only [Act.put, List.getElem_toArray, List.getElem_cons_succ, List.getElem_cons_zero, List.setIfInBounds_toArray, List.set_cons_zero, List.set_cons_succ]
            refine wpAnyH_take (i := 4) (v := undef) rfl (by kernel_rfl) (by kernel_rfl) (by kernel_rfl) (fun _ _ _ h => h) (Or.inr ⟨by rfl, rfl⟩) (by assumption) ?_
            try simp only [Act.put, List.getElem_toArray, List.getElem_cons_succ, List.getElem_cons_zero, List.setIfInBounds_toArray, List.set_cons_zero, List.set_cons_succ]
            refine wpAnyH_take (i := 5) (v := undef) rfl (by kernel_rfl) (by kernel_rfl) (by kernel_rfl) (fun _ _ _ h => h) (Or.inr ⟨by rfl, rfl⟩) (by assumption) ?_
            try simp only [Act.put, List.getElem_toArray, List.getElem_cons_succ, List.getElem_cons_zero, List.setIfInBounds_toArray, List.set_cons_zero, List.set_cons_succ]
            refine wpAnyH_take (i := 6) (v := undef) rfl (by kernel_rfl) (by kernel_rfl) (by kernel_rfl) (fun _ _ _ h => h) (Or.inr ⟨by rfl, rfl⟩) (by assumption) ?_
            try simp only [Act.put, List.getElem_toArray, List.getElem_cons_succ, List.getElem_cons_zero, List.setIfInBounds_toArray, List.set_cons_zero, List.set_cons_succ]
            refine wpAnyH_take (i := 7) (v := undef) rfl (by kernel_rfl) (by kernel_rfl) (by kernel_rfl) (fun _ _ _ h => h) (Or.inr ⟨by rfl, rfl⟩) (by assumption) ?_
            try simp only [Act.put, List.getElem_toArray, List.getElem_cons_succ, List.getElem_cons_zero, List.setIfInBounds_toArray, List.set_cons_zero, List.set_cons_succ]
            refine wpAnyH_take (i := 8) (v := ?_) rfl (by kernel_rfl) (by kernel_rfl) (by kernel_rfl) (fun _ _ _ h => h) (Or.inl ⟨by rfl, ?_⟩) (by assumption) ?_
            rotate_left 1
            · (intro w9 hSw; (try dsimp only at hSw); go_simp; try with_reducible rfl)
            try simp only [Act.put, List.getElem_toArray, List.getElem_cons_succ, List.getElem_cons_zero, List.setIfInBounds_toArray, List.set_cons_zero, List.set_cons_succ]
            refine wpAnyH_take (i := 9) (v := ?_) rfl (by kernel_rfl) (by kernel_rfl) (by kernel_rfl) (fun _ _ _ h => h) (Or.inl ⟨by rfl, ?_⟩) (by assumption) ?_
            rotate_left 1
            · (intro w9 hSw; (try dsimp only at hSw); go_simp; try with_reducible rfl)
            try simp only [Act.put, List.getElem_toArray, List.getElem_cons_succ, List.getElem_cons_zero, List.setIfInBounds_toArray, List.set_cons_zero, List.set_cons_succ]
            refine wpAnyH_done (by kernel_rfl) ?_ _
            go_wp2
            go_roundw
            case rel => exact ⟨1, true, true, by omega, rfl, rfl, rfl, bp_25, be_25, m1_25, m2_25, e0_25, e1_25, e2_25, e3_25, F25, hide ⟨seen_s0 HR.out.1 (.inl ⟨rfl, rfl⟩), seen_s0 HR.out.2 (.inl ⟨rfl, rfl⟩)⟩⟩
            case measure => simp only [intOf]; omega
      · rcases lo with _ | _
        · rcases hi with _ | _
          · obtain ⟨rl, hrl⟩ : ∃ r, decide (A1 = z1) = r := ⟨_, rfl⟩
            obtain ⟨rh, hrh⟩ : ∃ r, decide (B1 = z1) = r := ⟨_, rfl⟩
            have HRL := hide hrl
            have HRH := hide hrh
            clear hrl hrh
            have bp_u25 := Hp.cell0
            have bp_v25 := Hp.cell1
            have bp_w25 := Hp.cell2
            have bp_x25 := Hp.cell3
            have bp_y25 := Hp.cell4
            have bp_z25 := Hp.cell5
            have be_u25 := He.cell0
            have be_v25 := He.cell1
            have be_w25 := He.cell2
            have be_x25 := He.cell3
            have be_y25 := He.cell4
            have be_z25 := He.cell5
            have be_a25 := He.cell6
            have be_b25 := He.cell7
            have be_c25 := He.cell8
            have be_d25 := He.cell9
            have be_e25 := He.cell10
            have be_f25 := He.cell11
            go_wp2_with fail
            have m1_26 := K1.drew
            have m2_26 := K2.drew
            have e0_26 := E0.drew
            have e1_26 := E1.drew
            have e2_26 := E2.drew
            have e3_26 := E3.drew
            have bp_26 := Hp.drew
            have be_26 := He.drew
            have F26 := FB.drew
            go_region_held3 (fun w' => w'.cell? ⟨w6.heap.size, 0, none⟩ = some (.bool u6.s) ∧ w'.cell? ⟨w6.heap.size, 1, none⟩ = some (.slice u6.A u6.n u6.c) ∧ w'.cell? ⟨w6.heap.size, 2, none⟩ = some (.slice u6.B u6.m u6.d) ∧ w'.cell? ⟨w6.heap.size, 3, none⟩ = some (.bool v6.s) ∧ w'.cell? ⟨w6.heap.size, 4, none⟩ = some (.slice v6.A v6.n v6.c) ∧ w'.cell? ⟨w6.heap.size, 5, none⟩ = some (.slice v6.B v6.m v6.d) ∧ w'.cell? ⟨g13, 0, none⟩ = some (.bool u9.s) ∧ w'.cell? ⟨g13, 1, none⟩ = some (.slice u9.A u9.n u9.c) ∧ w'.cell? ⟨g13, 2, none⟩ = some (.slice u9.B u9.m u9.d) ∧ w'.cell? ⟨g13, 3, none⟩ = some (.bool u10.s) ∧ w'.cell? ⟨g13, 4, none⟩ = some (.slice u10.A u10.n u10.c) ∧ w'.cell? ⟨g13, 5, none⟩ = some (.slice u10.B u10.m u10.d) ∧ w'.cell? ⟨g13, 6, none⟩ = some (.bool u11.s) ∧ w'.cell? ⟨g13, 7, none⟩ = some (.slice u11.A u11.n u11.c) ∧ w'.cell? ⟨g13, 8, none⟩ = some (.slice u11.B u11.m u11.d) ∧ w'.cell? ⟨g13, 9, none⟩ = some (.bool u12.s) ∧ w'.cell? ⟨g13, 10, none⟩ = some (.slice u12.A u12.n u12.c) ∧ w'.cell? ⟨g13, 11, none⟩ = some (.slice u12.B u12.m u12.d))
              (first
                | with_reducible exact ⟨bp_27.cell0, bp_27.cell1, bp_27.cell2, bp_27.cell3, bp_27.cell4, bp_27.cell5, be_27.cell0, be_27.cell1, be_27.cell2, be_27.cell3, be_27.cell4, be_27.cell5, be_27.cell6, be_27.cell7, be_27.cell8, be_27.cell9, be_27.cell10, be_27.cell11⟩
                | with_reducible exact ⟨bp_26.cell0, bp_26.cell1, bp_26.cell2, bp_26.cell3, bp_26.cell4, bp_26.cell5, be_26.cell0, be_26.cell1, be_26.cell2, be_26.cell3, be_26.cell4, be_26.cell5, be_26.cell6, be_26.cell7, be_26.cell8, be_26.cell9, be_26.cell10, be_26.cell11⟩
                | fail)
              (first
                | (go_at_call 34; (with_reducible refine (sameb_u _ _ A1 z1 rl _ HRL.out m1_26 e1_26 ((m1_26.len sA1).mono k4) ((e1_26.len t2).mono k4)).mono ?_); rintro e w27 ⟨rfl, b27⟩; have m1_27 := m1_26.below b27; have m2_27 := m2_26.below b27; have e0_27 := e0_26.below b27; have e1_27 := e1_26.below b27; have e2_27 := e2_26.below b27; have e3_27 := e3_26.below b27; have bp_27 := bp_26.below b27 bp_26.lt; have be_27 := be_26.below b27 be_26.lt; have F27 := below_then F26 (Nat.le_refl _) b27)
                | fail)
            have bp_u27 := bp_27.cell0
            have bp_v27 := bp_27.cell1
            have bp_w27 := bp_27.cell2
            have bp_x27 := bp_27.cell3
            have bp_y27 := bp_27.cell4
            have bp_z27 := bp_27.cell5
            have be_u27 := be_27.cell0
            have be_v27 := be_27.cell1
            have be_w27 := be_27.cell2
            have be_x27 := be_27.cell3
            have be_y27 := be_27.cell4
            have be_z27 := be_27.cell5
            have be_a27 := be_27.cell6
            have be_b27 := be_27.cell7
            have be_c27 := be_27.cell8
            have be_d27 := be_27.cell9
            have be_e27 := be_27.cell10
            have be_f27 := be_27.cell11
            go_wp2_with fail
            have m1_28 := m1_27.drew
            have m2_28 := m2_27.drew
            have e0_28 := e0_27.drew
            have e1_28 := e1_27.drew
            have e2_28 := e2_27.drew
            have e3_28 := e3_27.drew
            have bp_28 := bp_27.drew
            have be_28 := be_27.drew
            have F28 := F27.drew
            go_region_held3 (fun w' => w'.cell? ⟨w6.heap.size, 0, none⟩ = some (.bool u6.s) ∧ w'.cell? ⟨w6.heap.size, 1, none⟩ = some (.slice u6.A u6.n u6.c) ∧ w'.cell? ⟨w6.heap.size, 2, none⟩ = some (.slice u6.B u6.m u6.d) ∧ w'.cell? ⟨w6.heap.size, 3, none⟩ = some (.bool v6.s) ∧ w'.cell? ⟨w6.heap.size, 4, none⟩ = some (.slice v6.A v6.n v6.c) ∧ w'.cell? ⟨w6.heap.size, 5, none⟩ = some (.slice v6.B v6.m v6.d) ∧ w'.cell? ⟨g13, 0, none⟩ = some (.bool u9.s) ∧ w'.cell? ⟨g13, 1, none⟩ = some (.slice u9.A u9.n u9.c) ∧ w'.cell? ⟨g13, 2, none⟩ = some (.slice u9.B u9.m u9.d) ∧ w'.cell? ⟨g13, 3, none⟩ = some (.bool u10.s) ∧ w'.cell? ⟨g13, 4, none⟩ = some (.slice u10.A u10.n u10.c) ∧ w'.cell? ⟨g13, 5, none⟩ = some (.slice u10.B u10.m u10.d) ∧ w'.cell? ⟨g13, 6, none⟩ = some (.bool u11.s) ∧ w'.cell? ⟨g13, 7, none⟩ = some (.slice u11.A u11.n u11.c) ∧ w'.cell? ⟨g13, 8, none⟩ = some (.slice u11.B u11.m u11.d) ∧ w'.cell? ⟨g13, 9, none⟩ = some (.bool u12.s) ∧ w'.cell? ⟨g13, 10, none⟩ = some (.slice u12.A u12.n u12.c) ∧ w'.cell? ⟨g13, 11, none⟩ = some (.slice u12.B u12.m u12.d))
              (first
                | with_reducible exact ⟨bp_29.cell0, bp_29.cell1, bp_29.cell2, bp_29.cell3, bp_29.cell4, bp_29.cell5, be_29.cell0, be_29.cell1, be_29.cell2, be_29.cell3, be_29.cell4, be_29.cell5, be_29.cell6, be_29.cell7, be_29.cell8, be_29.cell9, be_29.cell10, be_29.cell11⟩
                | with_reducible exact ⟨bp_28.cell0, bp_28.cell1, bp_28.cell2, bp_28.cell3, bp_28.cell4, bp_28.cell5, be_28.cell0, be_28.cell1, be_28.cell2, be_28.cell3, be_28.cell4, be_28.cell5, be_28.cell6, be_28.cell7, be_28.cell8, be_28.cell9, be_28.cell10, be_28.cell11⟩
                | fail)
              (first
                | (go_at_call 34; (with_reducible refine (sameb_u _ _ B1 z1 rh _ HRH.out m2_28 e1_28 ((m2_28.len sB1).mono k4) ((e1_28.len t2).mono k4)).mono ?_); rintro e w29 ⟨rfl, b29⟩; have m1_29 := m1_28.below b29; have m2_29 := m2_28.below b29; have e0_29 := e0_28.below b29; have e1_29 := e1_28.below b29; have e2_29 := e2_28.below b29; have e3_29 := e3_28.below b29; have bp_29 := bp_28.below b29 bp_28.lt; have be_29 := be_28.below b29 be_28.lt; have F29 := below_then F28 (Nat.le_refl _) b29)
                | fail)
            have bp_u29 := bp_29.cell0
            have bp_v29 := bp_29.cell1
            have bp_w29 := bp_29.cell2
            have bp_x29 := bp_29.cell3
            have bp_y29 := bp_29.cell4
            have bp_z29 := bp_29.cell5
            have be_u29 := be_29.cell0
            have be_v29 := be_29.cell1
            have be_w29 := be_29.cell2
            have be_x29 := be_29.cell3
            have be_y29 := be_29.cell4
            have be_z29 := be_29.cell5
            have be_a29 := be_29.cell6
            have be_b29 := be_29.cell7
            have be_c29 := be_29.cell8
            have be_d29 := be_29.cell9
            have be_e29 := be_29.cell10
            have be_f29 := be_29.cell11
            go_wp2
            go_roundw
            case rel => exact ⟨2, rl, rh, by omega, rfl, rfl, rfl, bp_29, be_29, m1_29, m2_29, e0_29, e1_29, e2_29, e3_29, F29, hide ⟨seen_s1 HR.out.1 (.inr ⟨rfl, HRL.out⟩), seen_s1 HR.out.2 (.inr ⟨rfl, HRH.out⟩)⟩⟩
            case measure => simp only [intOf]; omega
          · obtain ⟨rl, hrl⟩ : ∃ r, decide (A1 = z1) = r := ⟨_, rfl⟩
            obtain ⟨rh, hrh⟩ : ∃ r, decide (B1 = z1) = r := ⟨_, rfl⟩
            have HRL := hide hrl
            have HRH := hide hrh
            clear hrl hrh
            have bp_u29 := Hp.cell0
            have bp_v29 := Hp.cell1
            have bp_w29 := Hp.cell2
            have bp_x29 := Hp.cell3
            have bp_y29 := Hp.cell4
            have bp_z29 := Hp.cell5
            have be_u29 := He.cell0
            have be_v29 := He.cell1
            have be_w29 := He.cell2
            have be_x29 := He.cell3
            have be_y29 := He.cell4
            have be_z29 := He.cell5
            have be_a29 := He.cell6
            have be_b29 := He.cell7
            have be_c29 := He.cell8
            have be_d29 := He.cell9
            have be_e29 := He.cell10
            have be_f29 := He.cell11
            go_wp2_with fail
            have m1_30 := K1.drew
            have m2_30 := K2.drew
            have e0_30 := E0.drew
            have e1_30 := E1.drew
            have e2_30 := E2.drew
            have e3_30 := E3.drew
            have bp_30 := Hp.drew
            have be_30 := He.drew
            have F30 := FB.drew
            go_region_held3 (fun w' => w'.cell? ⟨w6.heap.size, 0, none⟩ = some (.bool u6.s) ∧ w'.cell? ⟨w6.heap.size, 1, none⟩ = some (.slice u6.A u6.n u6.c) ∧ w'.cell? ⟨w6.heap.size, 2, none⟩ = some (.slice u6.B u6.m u6.d) ∧ w'.cell? ⟨w6.heap.size, 3, none⟩ = some (.bool v6.s) ∧ w'.cell? ⟨w6.heap.size, 4, none⟩ = some (.slice v6.A v6.n v6.c) ∧ w'.cell? ⟨w6.heap.size, 5, none⟩ = some (.slice v6.B v6.m v6.d) ∧ w'.cell? ⟨g13, 0, none⟩ = some (.bool u9.s) ∧ w'.cell? ⟨g13, 1, none⟩ = some (.slice u9.A u9.n u9.c) ∧ w'.cell? ⟨g13, 2, none⟩ = some (.slice u9.B u9.m u9.d) ∧ w'.cell? ⟨g13, 3, none⟩ = some (.bool u10.s) ∧ w'.cell? ⟨g13, 4, none⟩ = some (.slice u10.A u10.n u10.c) ∧ w'.cell? ⟨g13, 5, none⟩ = some (.slice u10.B u10.m u10.d) ∧ w'.cell? ⟨g13, 6, none⟩ = some (.bool u11.s) ∧ w'.cell? ⟨g13, 7, none⟩ = some (.slice u11.A u11.n u11.c) ∧ w'.cell? ⟨g13, 8, none⟩ = some (.slice u11.B u11.m u11.d) ∧ w'.cell? ⟨g13, 9, none⟩ = some (.bool u12.s) ∧ w'.cell? ⟨g13, 10, none⟩ = some (.slice u12.A u12.n u12.c) ∧ w'.cell? ⟨g13, 11, none⟩ = some (.slice u12.B u12.m u12.d))
              (first
                | with_reducible exact ⟨bp_31.cell0, bp_31.cell1, bp_31.cell2, bp_31.cell3, bp_31.cell4, bp_31.cell5, be_31.cell0, be_31.cell1, be_31.cell2, be_31.cell3, be_31.cell4, be_31.cell5, be_31.cell6, be_31.cell7, be_31.cell8, be_31.cell9, be_31.cell10, be_31.cell11⟩
                | with_reducible exact ⟨bp_30.cell0, bp_30.cell1, bp_30.cell2, bp_30.cell3, bp_30.cell4, bp_30.cell5, be_30.cell0, be_30.cell1, be_30.cell2, be_30.cell3, be_30.cell4, be_30.cell5, be_30.cell6, be_30.cell7, be_30.cell8, be_30.cell9, be_30.cell10, be_30.cell11⟩
                | fail)
              (first
                | (go_at_call 34; (with_reducible refine (sameb_u _ _ A1 z1 rl _ HRL.out m1_30 e1_30 ((m1_30.len sA1).mono k4) ((e1_30.len t2).mono k4)).mono ?_); rintro e w31 ⟨rfl, b31⟩; have m1_31 := m1_30.below b31; have m2_31 := m2_30.below b31; have e0_31 := e0_30.below b31; have e1_31 := e1_30.below b31; have e2_31 := e2_30.below b31; have e3_31 := e3_30.below b31; have bp_31 := bp_30.below b31 bp_30.lt; have be_31 := be_30.below b31 be_30.lt; have F31 := below_then F30 (Nat.le_refl _) b31)
                | fail)
            have bp_u31 := bp_31.cell0
            have bp_v31 := bp_31.cell1
            have bp_w31 := bp_31.cell2
            have bp_x31 := bp_31.cell3
            have bp_y31 := bp_31.cell4
            have bp_z31 := bp_31.cell5
            have be_u31 := be_31.cell0
            have be_v31 := be_31.cell1
            have be_w31 := be_31.cell2
            have be_x31 := be_31.cell3
            have be_y31 := be_31.cell4
            have be_z31 := be_31.cell5
            have be_a31 := be_31.cell6
            have be_b31 := be_31.cell7
            have be_c31 := be_31.cell8
            have be_d31 := be_31.cell9
            have be_e31 := be_31.cell10
            have be_f31 := be_31.cell11
            go_wp2_with fail
            have m1_32 := m1_31.drew
            have m2_32 := m2_31.drew
            have e0_32 := e0_31.drew
            have e1_32 := e1_31.drew
            have e2_32 := e2_31.drew
            have e3_32 := e3_31.drew
            have bp_32 := bp_31.drew
            have be_32 := be_31.drew
            have F32 := F31.drew
            refine wp_region_held_drew (S := fun w' => w'.cell? ⟨w6.heap.size, 0, none⟩ = some (.bool u6.s) ∧ w'.cell? ⟨w6.heap.size, 1, none⟩ = some (.slice u6.A u6.n u6.c) ∧ w'.cell? ⟨w6.heap.size, 2, none⟩ = some (.slice u6.B u6.m u6.d) ∧ w'.cell? ⟨w6.heap.size, 3, none⟩ = some (.bool v6.s) ∧ w'.cell? ⟨w6.heap.size, 4, none⟩ = some (.slice v6.A v6.n v6.c) ∧ w'.cell? ⟨w6.heap.size, 5, none⟩ = some (.slice v6.B v6.m v6.d) ∧ w'.cell? ⟨g13, 0, none⟩ = some (.bool u9.s) ∧ w'.cell? ⟨g13, 1, none⟩ = some (.slice u9.A u9.n u9.c) ∧ w'.cell? ⟨g13, 2, none⟩ = some (.slice u9.B u9.m u9.d) ∧ w'.cell? ⟨g13, 3, none⟩ = some (.bool u10.s) ∧ w'.cell? ⟨g13, 4, none⟩ = some (.slice u10.A u10.n u10.c) ∧ w'.cell? ⟨g13, 5, none⟩ = some (.slice u10.B u10.m u10.d) ∧ w'.cell? ⟨g13, 6, none⟩ = some (.bool u11.s) ∧ w'.cell? ⟨g13, 7, none⟩ = some (.slice u11.A u11.n u11.c) ∧ w'.cell? ⟨g13, 8, none⟩ = some (.slice u11.B u11.m u11.d) ∧ w'.cell? ⟨g13, 9, none⟩ = some (.bool u12.s) ∧ w'.cell? ⟨g13, 10, none⟩ = some (.slice u12.A u12.n u12.c) ∧ w'.cell? ⟨g13, 11, none⟩ = some (.slice u12.B u12.m u12.d)) (by kernel_rfl) ?_ (fun hHeld => ?_)
            · (try dsimp only); exact ⟨bp_32.cell0, bp_32.cell1, bp_32.cell2, bp_32.cell3, bp_32.cell4, bp_32.cell5, be_32.cell0, be_32.cell1, be_32.cell2, be_32.cell3, be_32.cell4, be_32.cell5, be_32.cell6, be_32.cell7, be_32.cell8, be_32.cell9, be_32.cell10, be_32.cell11⟩
            refine wpAnyH_take (i := 0) (v := ?_) rfl (by kernel_rfl) (by kernel_rfl) (by kernel_rfl) (fun _ _ _ h => h) (Or.inl ⟨by rfl, ?_⟩) (by assumption) ?_
            rotate_left 1
            · (intro w9 hSw; (try dsimp only at hSw); go_simp; try with_reducible rfl)
            try simp only [Act.put, List.getElem_toArray, List.getElem_cons_succ, List.getElem_cons_zero, List.setIfInBounds_toArray, List.set_cons_zero, List.set_cons_succ]
            refine wpAnyH_take (i := 1) (v := ?_) rfl (by kernel_rfl) (by kernel_rfl) (by kernel_rfl) (fun _ _ _ h => h) (Or.inl ⟨by rfl, ?_⟩) (by assumption) ?_
            rotate_left 1
            · (intro w9 hSw; (try dsimp only at hSw); go_simp; try with_reducible rfl)
            try simp only [Act.put, List.getElem_toArray, List.getElem_cons_succ, List.getElem_cons_zero, List.setIfInBounds_toArray, List.set_cons_zero, List.set_cons_succ]
            refine wpAnyH_take (i := 2) (v := undef) rfl (by kernel_rfl) (by kernel_rfl) (by kernel_rfl) (fun _ _ _ h => h) (Or.inr ⟨by rfl, rfl⟩) (by assumption) ?_
            try simp only [Act.put, List.getElem_toArray, List.getElem_cons_succ, List.getElem_cons_zero, List.setIfInBounds_toArray, List.set_cons_zero, List.set_cons_succ]
            refine wpAnyH_take (i := 3) (v := undef) rfl (by kernel_rfl) (by kernel_rfl) (by kernel_rfl) (fun _ _ _ h => h) (Or.inr ⟨by rfl, rfl⟩) (by assumption) ?_
            try simp only [Act.put, List.getElem_toArray, List.getElem_cons_succ, List.getElem_cons_zero, List.setIfInBounds_toArray, List.set_cons_zero, List.set_cons_succ]
            refine wpAnyH_take (i := 4) (v := undef) rfl (by kernel_rfl) (by kernel_rfl) (by kernel_rfl) (fun _ _ _ h => h) (Or.inr ⟨by rfl, rfl⟩) (by assumption) ?_
            try simp only [Act.put, List.getElem_toArray, List.getElem_cons_succ, List.getElem_cons_zero, List.setIfInBounds_toArray, List.set_cons_zero, List.set_cons_succ]
            refine wpAnyH_take (i := 5) (v := undef) rfl (by kernel_rfl) (by kernel_rfl) (by kernel_rfl) (fun _ _ _ h => h) (Or.inr ⟨by rfl, rfl⟩) (by assumption) ?_
            try simp only [Act.put, List.getElem_toArray, List.getElem_cons_succ, List.getElem_cons_zero, List.setIfInBounds_toArray, List.set_cons_zero, List.set_cons_succ]
            refine wpAnyH_take (i := 6) (v := undef) rfl (by kernel_rfl) (by kernel_rfl) (by kernel_rfl) (fun _ _ _ h => h) (Or.inr ⟨by rfl, rfl⟩) (by assumption) ?_
            try simp only [Act.put, List.getElem_toArray, List.getElem_cons_succ, List.getElem_cons_zero, List.setIfInBounds_toArray, List.set_cons_zero, List.set_cons_succ]
            refine wpAnyH_take (i := 7) (v := undef) rfl (by kernel_rfl) (by kernel_rfl) (by kernel_rfl) (fun _ _ _ h => h) (Or.inr ⟨by rfl, rfl⟩) (by assumption) ?_
            try simp only [Act.put, List.getElem_toArray, List.getElem_cons_succ, List.getElem_cons_zero, List.setIfInBounds_toArray, List.set_cons_zero, List.set_cons_succ]
            refine wpAnyH_take (i := 8) (v := ?_) rfl (by kernel_rfl) (by kernel_rfl) (by kernel_rfl) (fun _ _ _ h => h) (Or.inl ⟨by rfl, ?_⟩) (by assumption) ?_
            rotate_left 1
            · (intro w9 hSw; (try dsimp only at hSw); go_simp; try with_reducible rfl)
            try simp only [Act.put, List.getElem_toArray, List.getElem_cons_succ, List.getElem_cons_zero, List.setIfInBounds_toArray, List.set_cons_zero, List.set_cons_succ]
            refine wpAnyH_take (i := 9) (v := ?_) rfl (by kernel_rfl) (by kernel_rfl) (by kernel_rfl) (fun _ _ _ h => h) (Or.inl ⟨by rfl, ?_⟩) (by assumption) ?_
            rotate_left 1
            · (intro w9 hSw; (try dsimp only at hSw); go_simp; try with_reducible rfl)
            try simp only [Act.put, List.getElem_toArray, List.getElem_cons_succ, List.getElem_cons_zero, List.setIfInBounds_toArray, List.set_cons_zero, List.set_cons_succ]
            refine wpAnyH_done (by kernel_rfl) ?_ _
            go_wp2
            go_roundw
            case rel => exact ⟨2, rl, true, by omega, rfl, rfl, rfl, bp_32, be_32, m1_32, m2_32, e0_32, e1_32, e2_32, e3_32, F32, hide ⟨seen_s1 HR.out.1 (.inr ⟨rfl, HRL.out⟩), seen_s1 HR.out.2 (.inl ⟨rfl, rfl⟩)⟩⟩
            case measure => simp only [intOf]; omega
        · rcases hi with _ | _
          · obtain ⟨rl, hrl⟩ : ∃ r, decide (A1 = z1) = r := ⟨_, rfl⟩
            obtain ⟨rh, hrh⟩ : ∃ r, decide (B1 = z1) = r := ⟨_, rfl⟩
            have HRL := hide hrl
            have HRH := hide hrh
            clear hrl hrh
            have bp_u32 := Hp.cell0
            have bp_v32 := Hp.cell1
            have bp_w32 := Hp.cell2
            have bp_x32 := Hp.cell3
            have bp_y32 := Hp.cell4
            have bp_z32 := Hp.cell5
            have be_u32 := He.cell0
            have be_v32 := He.cell1
            have be_w32 := He.cell2
            have be_x32 := He.cell3
            have be_y32 := He.cell4
            have be_z32 := He.cell5
            have be_a32 := He.cell6
            have be_b32 := He.cell7
            have be_c32 := He.cell8
            have be_d32 := He.cell9
            have be_e32 := He.cell10
            have be_f32 := He.cell11
            go_wp2_with fail
            have m1_33 := K1.drew
            have m2_33 := K2.drew
            have e0_33 := E0.drew
            have e1_33 := E1.drew
            have e2_33 := E2.drew
            have e3_33 := E3.drew
            have bp_33 := Hp.drew
            have be_33 := He.drew
            have F33 := FB.drew
            refine wp_region_held_drew (S := fun w' => w'.cell? ⟨w6.heap.size, 0, none⟩ = some (.bool u6.s) ∧ w'.cell? ⟨w6.heap.size, 1, none⟩ = some (.slice u6.A u6.n u6.c) ∧ w'.cell? ⟨w6.heap.size, 2, none⟩ = some (.slice u6.B u6.m u6.d) ∧ w'.cell? ⟨w6.heap.size, 3, none⟩ = some (.bool v6.s) ∧ w'.cell? ⟨w6.heap.size, 4, none⟩ = some (.slice v6.A v6.n v6.c) ∧ w'.cell? ⟨w6.heap.size, 5, none⟩ = some (.slice v6.B v6.m v6.d) ∧ w'.cell? ⟨g13, 0, none⟩ = some (.bool u9.s) ∧ w'.cell? ⟨g13, 1, none⟩ = some (.slice u9.A u9.n u9.c) ∧ w'.cell? ⟨g13, 2, none⟩ = some (.slice u9.B u9.m u9.d) ∧ w'.cell? ⟨g13, 3, none⟩ = some (.bool u10.s) ∧ w'.cell? ⟨g13, 4, none⟩ = some (.slice u10.A u10.n u10.c) ∧ w'.cell? ⟨g13, 5, none⟩ = some (.slice u10.B u10.m u10.d) ∧ w'.cell? ⟨g13, 6, none⟩ = some (.bool u11.s) ∧ w'.cell? ⟨g13, 7, none⟩ = some (.slice u11.A u11.n u11.c) ∧ w'.cell? ⟨g13, 8, none⟩ = some (.slice u11.B u11.m u11.d) ∧ w'.cell? ⟨g13, 9, none⟩ = some (.bool u12.s) ∧ w'.cell? ⟨g13, 10, none⟩ = some (.slice u12.A u12.n u12.c) ∧ w'.cell? ⟨g13, 11, none⟩ = some (.slice u12.B u12.m u12.d)) (by kernel_rfl) ?_ (fun hHeld => ?_)
            · (try dsimp only); exact ⟨bp_33.cell0, bp_33.cell1, bp_33.cell2, bp_33.cell3, bp_33.cell4, bp_33.cell5, be_33.cell0, be_33.cell1, be_33.cell2, be_33.cell3, be_33.cell4, be_33.cell5, be_33.cell6, be_33.cell7, be_33.cell8, be_33.cell9, be_33.cell10, be_33.cell11⟩
            refine wpAnyH_take (i := 0) (v := ?_) rfl (by kernel_rfl) (by kernel_rfl) (by kernel_rfl) (fun _ _ _ h => h) (Or.inl ⟨by rfl, ?_⟩) (by assumption) ?_
            rotate_left 1
            · (intro w9 hSw; (try dsimp only at hSw); go_simp; try with_reducible rfl)
            try simp only [Act.put, List.getElem_toArray, List.getElem_cons_succ, List.getElem_cons_zero, List.setIfInBounds_toArray, List.set_cons_zero, List.set_cons_succ]
            refine wpAnyH_take (i := 1) (v := ?_) rfl (by kernel_rfl) (by kernel_rfl) (by kernel_rfl) (fun _ _ _ h => h) (Or.inl ⟨by rfl, ?_⟩) (by assumption) ?_
            rotate_left 1
            · (intro w9 hSw; (try dsimp only at hSw); go_simp; try with_reducible rfl)
            try simp only [Act.put, List.getElem_toArray, List.getElem_cons_succ, List.getElem_cons_zero, List.setIfInBounds_toArray, List.set_cons_zero, List.set_cons_succ]
            refine wpAnyH_take (i := 2) (v := undef) rfl (by kernel_rfl) (by kernel_rfl) (by kernel_rfl) (fun _ _ _ h => h) (Or.inr ⟨by rfl, rfl⟩) (by assumption) ?_
            try simp only [Act.put, List.getElem_toArray, List.getElem_cons_succ, List.getElem_cons_zero, List.setIfInBounds_toArray, List.set_cons_zero, List.set_cons_succ]
            refine wpAnyH_take (i := 3) (v := undef) rfl (by kernel_rfl) (by kernel_rfl) (by kernel_rfl) (fun _ _ _ h => h) (Or.inr ⟨by rfl, rfl⟩) (by assumption) ?_
            try simp only [Act.put, List.getElem_toArray, List.getElem_cons_succ, List.getElem_cons_zero, List.setIfInBounds_toArray, List.set_cons_zero, List.set_cons_succ]
            refine wpAnyH_take (i := 4) (v := undef) rfl (by kernel_rfl) (by kernel_rfl) (by kernel_rfl) (fun _ _ _ h => h) (Or.inr ⟨by rfl, rfl⟩) (by assumption) ?_
            try simp only [Act.put, List.getElem_toArray, List.getElem_cons_succ, List.getElem_cons_zero, List.setIfInBounds_toArray, List.set_cons_zero, List.set_cons_succ]
            refine wpAnyH_take (i := 5) (v := undef) rfl (by kernel_rfl) (by kernel_rfl) (by kernel_rfl) (fun _ _ _ h => h) (Or.inr ⟨by rfl, rfl⟩) (by assumption) ?_
            try simp only [Act.put, List.getElem_toArray, List.getElem_cons_succ, List.getElem_cons_zero, List.setIfInBounds_toArray, List.set_cons_zero, List.set_cons_succ]
            refine wpAnyH_take (i := 6) (v := undef) rfl (by kernel_rfl) (by kernel_rfl) (by kernel_rfl) (fun _ _ _ h => h) (Or.inr ⟨by rfl, rfl⟩) (by assumption) ?_
            try simp only [Act.put, List.getElem_toArray, List.getElem_cons_succ, List.getElem_cons_zero, List.setIfInBounds_toArray, List.set_cons_zero, List.set_cons_succ]
            refine wpAnyH_take (i := 7) (v := undef) rfl (by kernel_rfl) (by kernel_rfl) (by kernel_rfl) (fun _ _ _ h => h) (Or.inr ⟨by rfl, rfl⟩) (by assumption) ?_
            try simp only [Act.put, List.getElem_toArray, List.getElem_cons_succ, List.getElem_cons_zero, List.setIfInBounds_toArray, List.set_cons_zero, List.set_cons_succ]
            refine wpAnyH_take (i := 8) (v := ?_) rfl (by kernel_rfl) (by kernel_rfl) (by kernel_rfl) (fun _ _ _ h => h) (Or.inl ⟨by rfl, ?_⟩) (by assumption) ?_
            rotate_left 1
            · (intro w9 hSw; (try dsimp only at hSw); go_simp; try with_reducible rfl)
            try simp only [Act.put, List.getElem_toArray, List.getElem_cons_succ, List.getElem_cons_zero, List.setIfInBounds_toArray, List.set_cons_zero, List.set_cons_succ]
            refine wpAnyH_take (i := 9) (v := ?_) rfl (by kernel_rfl) (by kernel_rfl) (by kernel_rfl) (fun _ _ _ h => h) (Or.inl ⟨by rfl, ?_⟩) (by assumption) ?_
            rotate_left 1
            · (intro w9 hSw; (try dsimp only at hSw); go_simp; try with_reducible rfl)
            try simp only [Act.put, List.getElem_toArray, List.getElem_cons_succ, List.getElem_cons_zero, List.setIfInBounds_toArray, List.set_cons_zero, List.set_cons_succ]
            refine wpAnyH_done (by kernel_rfl) ?_ _
            go_wp2_with fail
            have m1_34 := m1_33.drew
            have m2_34 := m2_33.drew
            have e0_34 := e0_33.drew
            have e1_34 := e1_33.drew
            have e2_34 := e2_33.drew
            have e3_34 := e3_33.drew
            have bp_34 := bp_33.drew
            have be_34 := be_33.drew
            have F34 := F33.drew
            go_region_held3 (fun w' => w'.cell? ⟨w6.heap.size, 0, none⟩ = some (.bool u6.s) ∧ w'.cell? ⟨w6.heap.size, 1, none⟩ = some (.slice u6.A u6.n u6.c) ∧ w'.cell? ⟨w6.heap.size, 2, none⟩ = some (.slice u6.B u6.m u6.d) ∧ w'.cell? ⟨w6.heap.size, 3, none⟩ = some (.bool v6.s) ∧ w'.cell? ⟨w6.heap.size, 4, none⟩ = some (.slice v6.A v6.n v6.c) ∧ w'.cell? ⟨w6.heap.size, 5, none⟩ = some (.slice v6.B v6.m v6.d) ∧ w'.cell? ⟨g13, 0, none⟩ = some (.bool u9.s) ∧ w'.cell? ⟨g13, 1, none⟩ = some (.slice u9.A u9.n u9.c) ∧ w'.cell? ⟨g13, 2, none⟩ = some (.slice u9.B u9.m u9.d) ∧ w'.cell? ⟨g13, 3, none⟩ = some (.bool u10.s) ∧ w'.cell? ⟨g13, 4, none⟩ = some (.slice u10.A u10.n u10.c) ∧ w'.cell? ⟨g13, 5, none⟩ = some (.slice u10.B u10.m u10.d) ∧ w'.cell? ⟨g13, 6, none⟩ = some (.bool u11.s) ∧ w'.cell? ⟨g13, 7, none⟩ = some (.slice u11.A u11.n u11.c) ∧ w'.cell? ⟨g13, 8, none⟩ = some (.slice u11.B u11.m u11.d) ∧ w'.cell? ⟨g13, 9, none⟩ = some (.bool u12.s) ∧ w'.cell? ⟨g13, 10, none⟩ = some (.slice u12.A u12.n u12.c) ∧ w'.cell? ⟨g13, 11, none⟩ = some (.slice u12.B u12.m u12.d))
              (first
                | with_reducible exact ⟨bp_35.cell0, bp_35.cell1, bp_35.cell2, bp_35.cell3, bp_35.cell4, bp_35.cell5, be_35.cell0, be_35.cell1, be_35.cell2, be_35.cell3, be_35.cell4, be_35.cell5, be_35.cell6, be_35.cell7, be_35.cell8, be_35.cell9, be_35.cell10, be_35.cell11⟩
                | with_reducible exact ⟨bp_34.cell0, bp_34.cell1, bp_34.cell2, bp_34.cell3, bp_34.cell4, bp_34.cell5, be_34.cell0, be_34.cell1, be_34.cell2, be_34.cell3, be_34.cell4, be_34.cell5, be_34.cell6, be_34.cell7, be_34.cell8, be_34.cell9, be_34.cell10, be_34.cell11⟩
                | fail)
              (first
                | (go_at_call 34; (with_reducible refine (sameb_u _ _ B1 z1 rh _ HRH.out m2_34 e1_34 ((m2_34.len sB1).mono k4) ((e1_34.len t2).mono k4)).mono ?_); rintro e w35 ⟨rfl, b35⟩; have m1_35 := m1_34.below b35; have m2_35 := m2_34.below b35; have e0_35 := e0_34.below b35; have e1_35 := e1_34.below b35; have e2_35 := e2_34.below b35; have e3_35 := e3_34.below b35; have bp_35 := bp_34.below b35 bp_34.lt; have be_35 := be_34.below b35 be_34.lt; have F35 := below_then F34 (Nat.le_refl _) b35)
                | fail)
            have bp_u35 := bp_35.cell0
            have bp_v35 := bp_35.cell1
            have bp_w35 := bp_35.cell2
            have bp_x35 := bp_35.cell3
            have bp_y35 := bp_35.cell4
            have bp_z35 := bp_35.cell5
            have be_u35 := be_35.cell0
            have be_v35 := be_35.cell1
            have be_w35 := be_35.cell2
            have be_x35 := be_35.cell3
            have be_y35 := be_35.cell4
            have be_z35 := be_35.cell5
            have be_a35 := be_35.cell6
            have be_b35 := be_35.cell7
            have be_c35 := be_35.cell8
            have be_d35 := be_35.cell9
            have be_e35 := be_35.cell10
            have be_f35 := be_35.cell11
            go_wp2
            go_roundw
            case rel => exact ⟨2, true, rh, by omega, rfl, rfl, rfl, bp_35, be_35, m1_35, m2_35, e0_35, e1_35, e2_35, e3_35, F35, hide ⟨seen_s1 HR.out.1 (.inl ⟨rfl, rfl⟩), seen_s1 HR.out.2 (.inr ⟨rfl, HRH.out⟩)⟩⟩
            case measure => simp only [intOf]; omega
          · obtain ⟨rl, hrl⟩ : ∃ r, decide (A1 = z1) = r := ⟨_, rfl⟩
            obtain ⟨rh, hrh⟩ : ∃ r, decide (B1 = z1) = r := ⟨_, rfl⟩
            have HRL := hide hrl
            have HRH := hide hrh
            clear hrl hrh
            have bp_u35 := Hp.cell0
            have bp_v35 := Hp.cell1
            have bp_w35 := Hp.cell2
            have bp_x35 := Hp.cell3
            have bp_y35 := Hp.cell4
            have bp_z35 := Hp.cell5
            have be_u35 := He.cell0
            have be_v35 := He.cell1
            have be_w35 := He.cell2
            have be_x35 := He.cell3
            have be_y35 := He.cell4
            have be_z35 := He.cell5
            have be_a35 := He.cell6
            have be_b35 := He.cell7
            have be_c35 := He.cell8
            have be_d35 := He.cell9
            have be_e35 := He.cell10
            have be_f35 := He.cell11
            go_wp2_with fail
            have m1_36 := K1.drew
            have m2_36 := K2.drew
            have e0_36 := E0.drew
            have e1_36 := E1.drew
            have e2_36 := E2.drew
            have e3_36 := E3.drew
            have bp_36 := Hp.drew
            have be_36 := He.drew
            have F36 := FB.drew
            refine wp_region_held_drew (S := fun w' => w'.cell? ⟨w6.heap.size, 0, none⟩ = some (.bool u6.s) ∧ w'.cell? ⟨w6.heap.size, 1, none⟩ = some (.slice u6.A u6.n u6.c) ∧ w'.cell? ⟨w6.heap.size, 2, none⟩ = some (.slice u6.B u6.m u6.d) ∧ w'.cell? ⟨w6.heap.size, 3, none⟩ = some (.bool v6.s) ∧ w'.cell? ⟨w6.heap.size, 4, none⟩ = some (.slice v6.A v6.n v6.c) ∧ w'.cell? ⟨w6.heap.size, 5, none⟩ = some (.slice v6.B v6.m v6.d) ∧ w'.cell? ⟨g13, 0, none⟩ = some (.bool u9.s) ∧ w'.cell? ⟨g13, 1, none⟩ = some (.slice u9.A u9.n u9.c) ∧ w'.cell? ⟨g13, 2, none⟩ = some (.slice u9.B u9.m u9.d) ∧ w'.cell? ⟨g13, 3, none⟩ = some (.bool u10.s) ∧ w'.cell? ⟨g13, 4, none⟩ = some (.slice u10.A u10.n u10.c) ∧ w'.cell? ⟨g13, 5, none⟩ = some (.slice u10.B u10.m u10.d) ∧ w'.cell? ⟨g13, 6, none⟩ = some (.bool u11.s) ∧ w'.cell? ⟨g13, 7, none⟩ = some (.slice u11.A u11.n u11.c) ∧ w'.cell? ⟨g13, 8, none⟩ = some (.slice u11.B u11.m u11.d) ∧ w'.cell? ⟨g13, 9, none⟩ = some (.bool u12.s) ∧ w'.cell? ⟨g13, 10, none⟩ = some (.slice u12.A u12.n u12.c) ∧ w'.cell? ⟨g13, 11, none⟩ = some (.slice u12.B u12.m u12.d)) (by kernel_rfl) ?_ (fun hHeld => ?_)
            · (try dsimp only); exact ⟨bp_36.cell0, bp_36.cell1, bp_36.cell2, bp_36.cell3, bp_36.cell4, bp_36.cell5, be_36.cell0, be_36.cell1, be_36.cell2, be_36.cell3, be_36.cell4, be_36.cell5, be_36.cell6, be_36.cell7, be_36.cell8, be_36.cell9, be_36.cell10, be_36.cell11⟩
            refine wpAnyH_take (i := 0) (v := ?_) rfl (by kernel_rfl) (by kernel_rfl) (by kernel_rfl) (fun _ _ _ h => h) (Or.inl ⟨by rfl, ?_⟩) (by assumption) ?_
            rotate_left 1
            · (intro w9 hSw; (try dsimp only at hSw); go_simp; try with_reducible rfl)
            try simp only [Act.put, List.getElem_toArray, List.getElem_cons_succ, List.getElem_cons_zero, List.setIfInBounds_toArray, List.set_cons_zero, List.set_cons_succ]
            refine wpAnyH_take (i := 1) (v := ?_) rfl (by kernel_rfl) (by kernel_rfl) (by kernel_rfl) (fun _ _ _ h => h) (Or.inl ⟨by rfl, ?_⟩) (by assumption) ?_
            rotate_left 1
            · (intro w9 hSw; (try dsimp only at hSw); go_simp; try with_reducible rfl)
            try simp only [Act.put, List.getElem_toArray, List.getElem_cons_succ, List.getElem_cons_zero, List.setIfInBounds_toArray, List.set_cons_zero, List.set_cons_succ]
            refine wpAnyH_take (i := 2) (v := undef) rfl (by kernel_rfl) (by kernel_rfl) (by kernel_rfl) (fun _ _ _ h => h) (Or.inr ⟨by rfl, rfl⟩) (by assumption) ?_
            try simp only [Act.put, List.getElem_toArray, List.getElem_cons_succ, List.getElem_cons_zero, List.setIfInBounds_toArray, List.set_cons_zero, List.set_cons_succ]
            refine wpAnyH_take (i := 3) (v := undef) rfl (by kernel_rfl) (by kernel_rfl) (by kernel_rfl) (fun _ _ _ h => h) (Or.inr ⟨by rfl, rfl⟩) (by assumption) ?_
            try simp only [Act.put, List.getElem_toArray, List.getElem_cons_succ, List.getElem_cons_zero, List.setIfInBounds_toArray, List.set_cons_zero, List.set_cons_succ]
            refine wpAnyH_take (i := 4) (v := undef) rfl (by kernel_rfl) (by kernel_rfl) (by kernel_rfl) (fun _ _ _ h => h) (Or.inr ⟨by rfl, rfl⟩) (by assumption) ?_
            try simp only [Act.put, List.getElem_toArray, List.getElem_cons_succ, List.getElem_cons_zero, List.setIfInBounds_toArray, List.set_cons_zero, List.set_cons_succ]
            refine wpAnyH_take (i := 5) (v := undef) rfl (by kernel_rfl) (by kernel_rfl) (by kernel_rfl) (fun _ _ _ h => h) (Or.inr ⟨by rfl, rfl⟩) (by assumption) ?_
            try simp only [Act.put, List.getElem_toArray, List.getElem_cons_succ, List.getElem_cons_zero, List.setIfInBounds_toArray, List.set_cons_zero, List.set_cons_succ]
            refine wpAnyH_take (i := 6) (v := undef) rfl (by kernel_rfl) (by kernel_rfl) (by kernel_rfl) (fun _ _ _ h => h) (Or.inr ⟨by rfl, rfl⟩) (by assumption) ?_
            try simp only [Act.put, List.getElem_toArray, List.getElem_cons_succ, List.getElem_cons_zero, List.setIfInBounds_toArray, List.set_cons_zero, List.set_cons_succ]
            refine wpAnyH_take (i := 7) (v := undef) rfl (by kernel_rfl) (by kernel_rfl) (by kernel_rfl) (fun _ _ _ h => h) (Or.inr ⟨by rfl, rfl⟩) (by assumption) ?_
            try simp only [Act.put, List.getElem_toArray, List.getElem_cons_succ, List.getElem_cons_zero, List.setIfInBounds_toArray, List.set_cons_zero, List.set_cons_succ]
            refine wpAnyH_take (i := 8) (v := ?_) rfl (by kernel_rfl) (by kernel_rfl) (by kernel_rfl) (fun _ _ _ h => h) (Or.inl ⟨by rfl, ?_⟩) (by assumption) ?_
            rotate_left 1
            · (intro w9 hSw; (try dsimp only at hSw); go_simp; try with_reducible rfl)
            try simp only [Act.put, List.getElem_toArray, List.getElem_cons_succ, List.getElem_cons_zero, List.setIfInBounds_toArray, List.set_cons_zero, List.set_cons_succ]
            refine wpAnyH_take (i := 9) (v := ?_) rfl (by kernel_rfl) (by kernel_rfl) (by kernel_rfl) (fun _ _ _ h => h) (Or.inl ⟨by rfl, ?_⟩) (by assumption) ?_
            rotate_left 1
            · (intro w9 hSw; (try dsimp only at hSw); go_simp; try with_reducible rfl)
            try simp only [Act.put, List.getElem_toArray, List.getElem_cons_succ, List.getElem_cons_zero, List.setIfInBounds_toArray, List.set_cons_zero, List.set_cons_succ]
            refine wpAnyH_done (by kernel_rfl) ?_ _
            go_wp2_with fail
            have m1_37 := m1_36.drew
            have m2_37 := m2_36.drew
            have e0_37 := e0_36.drew
            have e1_37 := e1_36.drew
            have e2_37 := e2_36.drew
            have e3_37 := e3_36.drew
            have bp_37 := bp_36.drew
            have be_37 := be_36.drew
            have F37 := F36.drew
            refine wp_region_held_drew (S := fun w' => w'.cell? ⟨w6.heap.size, 0, none⟩ = some (.bool u6.s) ∧ w'.cell? ⟨w6.heap.size, 1, none⟩ = some (.slice u6.A u6.n u6.c) ∧ w'.cell? ⟨w6.heap.size, 2, none⟩ = some (.slice u6.B u6.m u6.d) ∧ w'.cell? ⟨w6.heap.size, 3, none⟩ = some (.bool v6.s) ∧ w'.cell? ⟨w6.heap.size, 4, none⟩ = some (.slice v6.A v6.n v6.c) ∧ w'.cell? ⟨w6.heap.size, 5, none⟩ = some (.slice v6.B v6.m v6.d) ∧ w'.cell? ⟨g13, 0, none⟩ = some (.bool u9.s) ∧ w'.cell? ⟨g13, 1, none⟩ = some (.slice u9.A u9.n u9.c) ∧ w'.cell? ⟨g13, 2, none⟩ = some (.slice u9.B u9.m u9.d) ∧ w'.cell? ⟨g13, 3, none⟩ = some (.bool u10.s) ∧ w'.cell? ⟨g13, 4, none⟩ = some (.slice u10.A u10.n u10.c) ∧ w'.cell? ⟨g13, 5, none⟩ = some (.slice u10.B u10.m u10.d) ∧ w'.cell? ⟨g13, 6, none⟩ = some (.bool u11.s) ∧ w'.cell? ⟨g13, 7, none⟩ = some (.slice u11.A u11.n u11.c) ∧ w'.cell? ⟨g13, 8, none⟩ = some (.slice u11.B u11.m u11.d) ∧ w'.cell? ⟨g13, 9, none⟩ = some (.bool u12.s) ∧ w'.cell? ⟨g13, 10, none⟩ = some (.slice u12.A u12.n u12.c) ∧ w'.cell? ⟨g13, 11, none⟩ = some (.slice u12.B u12.m u12.d)) (by kernel_rfl) ?_ (fun hHeld => ?_)
            · (try dsimp only); exact ⟨bp_37.cell0, bp_37.cell1, bp_37.cell2, bp_37.cell3, bp_37.cell4, bp_37.cell5, be_37.cell0, be_37.cell1, be_37.cell2, be_37.cell3, be_37.cell4, be_37.cell5, be_37.cell6, be_37.cell7, be_37.cell8, be_37.cell9, be_37.cell10, be_37.cell11⟩
            refine wpAnyH_take (i := 0) (v := ?_) rfl (by kernel_rfl) (by kernel_rfl) (by kernel_rfl) (fun _ _ _ h => h) (Or.inl ⟨by rfl, ?_⟩) (by assumption) ?_
            rotate_left 1
            · (intro w9 hSw; (try dsimp only at hSw); go_simp; try with_reducible rfl)
            try simp only [Act.put, List.getElem_toArray, List.getElem_cons_succ, List.getElem_cons_zero, List.setIfInBounds_toArray, List.set_cons_zero, List.set_cons_succ]
            refine wpAnyH_take (i := 1) (v := ?_) rfl (by kernel_rfl) (by kernel_rfl) (by kernel_rfl) (fun _ _ _ h => h) (Or.inl ⟨by rfl, ?_⟩) (by assumption) ?_
            rotate_left 1
            · (intro w9 hSw; (try dsimp only at hSw); go_simp; try with_reducible rfl)
            try simp only [Act.put, List.getElem_toArray, List.getElem_cons_succ, List.getElem_cons_zero, List.setIfInBounds_toArray, List.set_cons_zero, List.set_cons_succ]
            refine wpAnyH_take (i := 2) (v := undef) rfl (by kernel_rfl) (by kernel_rfl) (by kernel_rfl) (fun _ _ _ h => h) (Or.inr ⟨by rfl, rfl⟩) (by assumption) ?_
            try simp only [Act.put, List.getElem_toArray, List.getElem_cons_succ, List.getElem_cons_zero, List.setIfInBounds_toArray, List.set_cons_zero, List.set_cons_succ]
            refine wpAnyH_take (i := 3) (v := undef) rfl (by kernel_rfl) (by kernel_rfl) (by kernel_rfl) (fun _ _ _ h => h) (Or.inr ⟨by rfl, rfl⟩) (by assumption) ?_
            try simp only [Act.put, List.getElem_toArray, List.getElem_cons_succ, List.getElem_cons_zero, List.setIfInBounds_toArray, List.set_cons_zero, List.set_cons_succ]
            refine wpAnyH_take (i := 4) (v := undef) rfl (by kernel_rfl) (by kernel_rfl) (by kernel_rfl) (fun _ _ _ h => h) (Or.inr ⟨by rfl, rfl⟩) (by assumption) ?_
            try simp only [Act.put, List.getElem_toArray, List.getElem_cons_succ, List.getElem_cons_zero, List.setIfInBounds_toArray, List.set_cons_zero, List.set_cons_succ]
            refine wpAnyH_take (i := 5) (v := undef) rfl (by kernel_rfl) (by kernel_rfl) (by kernel_rfl) (fun _ _ _ h => h) (Or.inr ⟨by rfl, rfl⟩) (by assumption) ?_
            try simp only [Act.put, List.getElem_toArray, List.getElem_cons_succ, List.getElem_cons_zero, List.setIfInBounds_toArray, List.set_cons_zero, List.set_cons_succ]
            refine wpAnyH_take (i := 6) (v := undef) rfl (by kernel_rfl) (by kernel_rfl) (by kernel_rfl) (fun _ _ _ h => h) (Or.inr ⟨by rfl, rfl⟩) (by assumption) ?_
            try simp only [Act.put, List.getElem_toArray, List.getElem_cons_succ, List.getElem_cons_zero, List.setIfInBounds_toArray, List.set_cons_zero, List.set_cons_succ]
            refine wpAnyH_take (i := 7) (v := undef) rfl (by kernel_rfl) (by kernel_rfl) (by kernel_rfl) (fun _ _ _ h => h) (Or.inr ⟨by rfl, rfl⟩) (by assumption) ?_
            try simp only [Act.put, List.getElem_toArray, List.getElem_cons_succ, List.getElem_cons_zero, List.setIfInBounds_toArray, List.set_cons_zero, List.set_cons_succ]
            refine wpAnyH_take (i := 8) (v := ?_) rfl (by kernel_rfl) (by kernel_rfl) (by kernel_rfl) (fun _ _ _ h => h) (Or.inl ⟨by rfl, ?_⟩) (by assumption) ?_
            rotate_left 1
            · (intro w9 hSw; (try dsimp only at hSw); go_simp; try with_reducible rfl)
            try simp only [Act.put, List.getElem_toArray, List.getElem_cons_succ, List.getElem_cons_zero, List.setIfInBounds_toArray, List.set_cons_zero, List.set_cons_succ]
            refine wpAnyH_take (i := 9) (v := ?_) rfl (by kernel_rfl) (by kernel_rfl) (by kernel_rfl) (fun _ _ _ h => h) (Or.inl ⟨by rfl, ?_⟩) (by assumption) ?_
            rotate_left 1
            · (intro w9 hSw; (try dsimp only at hSw); go_simp; try with_reducible rfl)
            try simp only [Act.put, List.getElem_toArray, List.getElem_cons_succ, List.getElem_cons_zero, List.setIfInBounds_toArray, List.set_cons_zero, List.set_cons_succ]
            refine wpAnyH_done (by kernel_rfl) ?_ _
            go_wp2
            go_roundw
            case rel => exact ⟨2, true, true, by omega, rfl, rfl, rfl, bp_37, be_37, m1_37, m2_37, e0_37, e1_37, e2_37, e3_37, F37, hide ⟨seen_s1 HR.out.1 (.inl ⟨rfl, rfl⟩), seen_s1 HR.out.2 (.inl ⟨rfl, rfl⟩)⟩⟩
            case measure => simp only [intOf]; omega
      · rcases lo with _ | _
        · rcases hi with _ | _
          · obtain ⟨rl, hrl⟩ : ∃ r, decide (A1 = z2) = r := ⟨_, rfl⟩
            obtain ⟨rh, hrh⟩ : ∃ r, decide (B1 = z2) = r := ⟨_, rfl⟩
            have HRL := hide hrl
            have HRH := hide hrh
            clear hrl hrh
            have bp_u37 := Hp.cell0
            have bp_v37 := Hp.cell1
            have bp_w37 := Hp.cell2
            have bp_x37 := Hp.cell3
            have bp_y37 := Hp.cell4
            have bp_z37 := Hp.cell5
            have be_u37 := He.cell0
            have be_v37 := He.cell1
            have be_w37 := He.cell2
            have be_x37 := He.cell3
            have be_y37 := He.cell4
            have be_z37 := He.cell5
            have be_a37 := He.cell6
            have be_b37 := He.cell7
            have be_c37 := He.cell8
            have be_d37 := He.cell9
            have be_e37 := He.cell10
            have be_f37 := He.cell11
            go_wp2_with fail
            have m1_38 := K1.drew
            have m2_38 := K2.drew
            have e0_38 := E0.drew
            have e1_38 := E1.drew
            have e2_38 := E2.drew
            have e3_38 := E3.drew
            have bp_38 := Hp.drew
            have be_38 := He.drew
            have F38 := FB.drew
            go_region_held3 (fun w' => w'.cell? ⟨w6.heap.size, 0, none⟩ = some (.bool u6.s) ∧ w'.cell? ⟨w6.heap.size, 1, none⟩ = some (.slice u6.A u6.n u6.c) ∧ w'.cell? ⟨w6.heap.size, 2, none⟩ = some (.slice u6.B u6.m u6.d) ∧ w'.cell? ⟨w6.heap.size, 3, none⟩ = some (.bool v6.s) ∧ w'.cell? ⟨w6.heap.size, 4, none⟩ = some (.slice v6.A v6.n v6.c) ∧ w'.cell? ⟨w6.heap.size, 5, none⟩ = some (.slice v6.B v6.m v6.d) ∧ w'.cell? ⟨g13, 0, none⟩ = some (.bool u9.s) ∧ w'.cell? ⟨g13, 1, none⟩ = some (.slice u9.A u9.n u9.c) ∧ w'.cell? ⟨g13, 2, none⟩ = some (.slice u9.B u9.m u9.d) ∧ w'.cell? ⟨g13, 3, none⟩ = some (.bool u10.s) ∧ w'.cell? ⟨g13, 4, none⟩ = some (.slice u10.A u10.n u10.c) ∧ w'.cell? ⟨g13, 5, none⟩ = some (.slice u10.B u10.m u10.d) ∧ w'.cell? ⟨g13, 6, none⟩ = some (.bool u11.s) ∧ w'.cell? ⟨g13, 7, none⟩ = some (.slice u11.A u11.n u11.c) ∧ w'.cell? ⟨g13, 8, none⟩ = some (.slice u11.B u11.m u11.d) ∧ w'.cell? ⟨g13, 9, none⟩ = some (.bool u12.s) ∧ w'.cell? ⟨g13, 10, none⟩ = some (.slice u12.A u12.n u12.c) ∧ w'.cell? ⟨g13, 11, none⟩ = some (.slice u12.B u12.m u12.d))
              (first
                | with_reducible exact ⟨bp_39.cell0, bp_39.cell1, bp_39.cell2, bp_39.cell3, bp_39.cell4, bp_39.cell5, be_39.cell0, be_39.cell1, be_39.cell2, be_39.cell3, be_39.cell4, be_39.cell5, be_39.cell6, be_39.cell7, be_39.cell8, be_39.cell9, be_39.cell10, be_39.cell11⟩
                | with_reducible exact ⟨bp_38.cell0, bp_38.cell1, bp_38.cell2, bp_38.cell3, bp_38.cell4, bp_38.cell5, be_38.cell0, be_38.cell1, be_38.cell2, be_38.cell3, be_38.cell4, be_38.cell5, be_38.cell6, be_38.cell7, be_38.cell8, be_38.cell9, be_38.cell10, be_38.cell11⟩
                | fail)
              (first
                | (go_at_call 34; (with_reducible refine (sameb_u _ _ A1 z2 rl _ HRL.out m1_38 e2_38 ((m1_38.len sA1).mono k4) ((e2_38.len t3).mono k4)).mono ?_); rintro e w39 ⟨rfl, b39⟩; have m1_39 := m1_38.below b39; have m2_39 := m2_38.below b39; have e0_39 := e0_38.below b39; have e1_39 := e1_38.below b39; have e2_39 := e2_38.below b39; have e3_39 := e3_38.below b39; have bp_39 := bp_38.below b39 bp_38.lt; have be_39 := be_38.below b39 be_38.lt; have F39 := below_then F38 (Nat.le_refl _) b39)
                | fail)
            have bp_u39 := bp_39.cell0
            have bp_v39 := bp_39.cell1
            have bp_w39 := bp_39.cell2
            have bp_x39 := bp_39.cell3
            have bp_y39 := bp_39.cell4
            have bp_z39 := bp_39.cell5
            have be_u39 := be_39.cell0
            have be_v39 := be_39.cell1
            have be_w39 := be_39.cell2
            have be_x39 := be_39.cell3
            have be_y39 := be_39.cell4
            have be_z39 := be_39.cell5
            have be_a39 := be_39.cell6
            have be_b39 := be_39.cell7
            have be_c39 := be_39.cell8
            have be_d39 := be_39.cell9
            have be_e39 := be_39.cell10
            have be_f39 := be_39.cell11
            go_wp2_with fail
            have m1_40 := m1_39.drew
            have m2_40 := m2_39.drew
            have e0_40 := e0_39.drew
            have e1_40 := e1_39.drew
            have e2_40 := e2_39.drew
            have e3_40 := e3_39.drew
            have bp_40 := bp_39.drew
            have be_40 := be_39.drew
            have F40 := F39.drew
            go_region_held3 (fun w' => w'.cell? ⟨w6.heap.size, 0, none⟩ = some (.bool u6.s) ∧ w'.cell? ⟨w6.heap.size, 1, none⟩ = some (.slice u6.A u6.n u6.c) ∧ w'.cell? ⟨w6.heap.size, 2, none⟩ = some (.slice u6.B u6.m u6.d) ∧ w'.cell? ⟨w6.heap.size, 3, none⟩ = some (.bool v6.s) ∧ w'.cell? ⟨w6.heap.size, 4, none⟩ = some (.slice v6.A v6.n v6.c) ∧ w'.cell? ⟨w6.heap.size, 5, none⟩ = some (.slice v6.B v6.m v6.d) ∧ w'.cell? ⟨g13, 0, none⟩ = some (.bool u9.s) ∧ w'.cell? ⟨g13, 1, none⟩ = some (.slice u9.A u9.n u9.c) ∧ w'.cell? ⟨g13, 2, none⟩ = some (.slice u9.B u9.m u9.d) ∧ w'.cell? ⟨g13, 3, none⟩ = some (.bool u10.s) ∧ w'.cell? ⟨g13, 4, none⟩ = some (.slice u10.A u10.n u10.c) ∧ w'.cell? ⟨g13, 5, none⟩ = some (.slice u10.B u10.m u10.d) ∧ w'.cell? ⟨g13, 6, none⟩ = some (.bool u11.s) ∧ w'.cell? ⟨g13, 7, none⟩ = some (.slice u11.A u11.n u11.c) ∧ w'.cell? ⟨g13, 8, none⟩ = some (.slice u11.B u11.m u11.d) ∧ w'.cell? ⟨g13, 9, none⟩ = some (.bool u12.s) ∧ w'.cell? ⟨g13, 10, none⟩ = some (.slice u12.A u12.n u12.c) ∧ w'.cell? ⟨g13, 11, none⟩ = some (.slice u12.B u12.m u12.d))
              (first
                | with_reducible exact ⟨bp_41.cell0, bp_41.cell1, bp_41.cell2, bp_41.cell3, bp_41.cell4, bp_41.cell5, be_41.cell0, be_41.cell1, be_41.cell2, be_41.cell3, be_41.cell4, be_41.cell5, be_41.cell6, be_41.cell7, be_41.cell8, be_41.cell9, be_41.cell10, be_41.cell11⟩
                | with_reducible exact ⟨bp_40.cell0, bp_40.cell1, bp_40.cell2, bp_40.cell3, bp_40.cell4, bp_40.cell5, be_40.cell0, be_40.cell1, be_40.cell2, be_40.cell3, be_40.cell4, be_40.cell5, be_40.cell6, be_40.cell7, be_40.cell8, be_40.cell9, be_40.cell10, be_40.cell11⟩
                | fail)
              (first
                | (go_at_call 34; (with_reducible refine (sameb_u _ _ B1 z2 rh _ HRH.out m2_40 e2_40 ((m2_40.len sB1).mono k4) ((e2_40.len t3).mono k4)).mono ?_); rintro e w41 ⟨rfl, b41⟩; have m1_41 := m1_40.below b41; have m2_41 := m2_40.below b41; have e0_41 := e0_40.below b41; have e1_41 := e1_40.below b41; have e2_41 := e2_40.below b41; have e3_41 := e3_40.below b41; have bp_41 := bp_40.below b41 bp_40.lt; have be_41 := be_40.below b41 be_40.lt; have F41 := below_then F40 (Nat.le_refl _) b41)
                | fail)
            have bp_u41 := bp_41.cell0
            have bp_v41 := bp_41.cell1
            have bp_w41 := bp_41.cell2
            have bp_x41 := bp_41.cell3
            have bp_y41 := bp_41.cell4
            have bp_z41 := bp_41.cell5
            have be_u41 := be_41.cell0
            have be_v41 := be_41.cell1
            have be_w41 := be_41.cell2
            have be_x41 := be_41.cell3
            have be_y41 := be_41.cell4
            have be_z41 := be_41.cell5
            have be_a41 := be_41.cell6
            have be_b41 := be_41.cell7
            have be_c41 := be_41.cell8
            have be_d41 := be_41.cell9
            have be_e41 := be_41.cell10
            have be_f41 := be_41.cell11
            go_wp2
            go_roundw
            case rel => exact ⟨3, rl, rh, by omega, rfl, rfl, rfl, bp_41, be_41, m1_41, m2_41, e0_41, e1_41, e2_41, e3_41, F41, hide ⟨seen_s2 HR.out.1 (.inr ⟨rfl, HRL.out⟩), seen_s2 HR.out.2 (.inr ⟨rfl, HRH.out⟩)⟩⟩
            case measure => simp only [intOf]; omega
          · obtain ⟨rl, hrl⟩ : ∃ r, decide (A1 = z2) = r := ⟨_, rfl⟩
            obtain ⟨rh, hrh⟩ : ∃ r, decide (B1 = z2) = r := ⟨_, rfl⟩
            have HRL := hide hrl
            have HRH := hide hrh
            clear hrl hrh
            have bp_u41 := Hp.cell0
            have bp_v41 := Hp.cell1
            have bp_w41 := Hp.cell2
            have bp_x41 := Hp.cell3
            have bp_y41 := Hp.cell4
            have bp_z41 := Hp.cell5
            have be_u41 := He.cell0
            have be_v41 := He.cell1
            have be_w41 := He.cell2
            have be_x41 := He.cell3
            have be_y41 := He.cell4
            have be_z41 := He.cell5
            have be_a41 := He.cell6
            have be_b41 := He.cell7
            have be_c41 := He.cell8
            have be_d41 := He.cell9
            have be_e41 := He.cell10
            have be_f41 := He.cell11
            go_wp2_with fail
            have m1_42 := K1.drew
            have m2_42 := K2.drew
            have e0_42 := E0.drew
            have e1_42 := E1.drew
            have e2_42 := E2.drew
            have e3_42 := E3.drew
            have bp_42 := Hp.drew
            have be_42 := He.drew
            have F42 := FB.drew
            go_region_held3 (fun w' => w'.cell? ⟨w6.heap.size, 0, none⟩ = some (.bool u6.s) ∧ w'.cell? ⟨w6.heap.size, 1, none⟩ = some (.slice u6.A u6.n u6.c) ∧ w'.cell? ⟨w6.heap.size, 2, none⟩ = some (.slice u6.B u6.m u6.d) ∧ w'.cell? ⟨w6.heap.size, 3, none⟩ = some (.bool v6.s) ∧ w'.cell? ⟨w6.heap.size, 4, none⟩ = some (.slice v6.A v6.n v6.c) ∧ w'.cell? ⟨w6.heap.size, 5, none⟩ = some (.slice v6.B v6.m v6.d) ∧ w'.cell? ⟨g13, 0, none⟩ = some (.bool u9.s) ∧ w'.cell? ⟨g13, 1, none⟩ = some (.slice u9.A u9.n u9.c) ∧ w'.cell? ⟨g13, 2, none⟩ = some (.slice u9.B u9.m u9.d) ∧ w'.cell? ⟨g13, 3, none⟩ = some (.bool u10.s) ∧ w'.cell? ⟨g13, 4, none⟩ = some (.slice u10.A u10.n u10.c) ∧ w'.cell? ⟨g13, 5, none⟩ = some (.slice u10.B u10.m u10.d) ∧ w'.cell? ⟨g13, 6, none⟩ = some (.bool u11.s) ∧ w'.cell? ⟨g13, 7, none⟩ = some (.slice u11.A u11.n u11.c) ∧ w'.cell? ⟨g13, 8, none⟩ = some (.slice u11.B u11.m u11.d) ∧ w'.cell? ⟨g13, 9, none⟩ = some (.bool u12.s) ∧ w'.cell? ⟨g13, 10, none⟩ = some (.slice u12.A u12.n u12.c) ∧ w'.cell? ⟨g13, 11, none⟩ = some (.slice u12.B u12.m u12.d))
              (first
                | with_reducible exact ⟨bp_43.cell0, bp_43.cell1, bp_43.cell2, bp_43.cell3, bp_43.cell4, bp_43.cell5, be_43.cell0, be_43.cell1, be_43.cell2, be_43.cell3, be_43.cell4, be_43.cell5, be_43.cell6, be_43.cell7, be_43.cell8, be_43.cell9, be_43.cell10, be_43.cell11⟩
                | with_reducible exact ⟨bp_42.cell0, bp_42.cell1, bp_42.cell2, bp_42.cell3, bp_42.cell4, bp_42.cell5, be_42.cell0, be_42.cell1, be_42.cell2, be_42.cell3, be_42.cell4, be_42.cell5, be_42.cell6, be_42.cell7, be_42.cell8, be_42.cell9, be_42.cell10, be_42.cell11⟩
                | fail)
              (first
                | (go_at_call 34; (with_reducible refine (sameb_u _ _ A1 z2 rl _ HRL.out m1_42 e2_42 ((m1_42.len sA1).mono k4) ((e2_42.len t3).mono k4)).mono ?_); rintro e w43 ⟨rfl, b43⟩; have m1_43 := m1_42.below b43; have m2_43 := m2_42.below b43; have e0_43 := e0_42.below b43; have e1_43 := e1_42.below b43; have e2_43 := e2_42.below b43; have e3_43 := e3_42.below b43; have bp_43 := bp_42.below b43 bp_42.lt; have be_43 := be_42.below b43 be_42.lt; have F43 := below_then F42 (Nat.le_refl _) b43)
                | fail)
            have bp_u43 := bp_43.cell0
            have bp_v43 := bp_43.cell1
            have bp_w43 := bp_43.cell2
            have bp_x43 := bp_43.cell3
            have bp_y43 := bp_43.cell4
            have bp_z43 := bp_43.cell5
            have be_u43 := be_43.cell0
            have be_v43 := be_43.cell1
            have be_w43 := be_43.cell2
            have be_x43 := be_43.cell3
            have be_y43 := be_43.cell4
            have be_z43 := be_43.cell5
            have be_a43 := be_43.cell6
            have be_b43 := be_43.cell7
            have be_c43 := be_43.cell8
            have be_d43 := be_43.cell9
            have be_e43 := be_43.cell10
            have be_f43 := be_43.cell11
            go_wp2_with fail
            have m1_44 := m1_43.drew
            have m2_44 := m2_43.drew
            have e0_44 := e0_43.drew
            have e1_44 := e1_43.drew
            have e2_44 := e2_43.drew
            have e3_44 := e3_43.drew
            have bp_44 := bp_43.drew
            have be_44 := be_43.drew
            have F44 := F43.drew
            refine wp_region_held_drew (S := fun w' => w'.cell? ⟨w6.heap.size, 0, none⟩ = some (.bool u6.s) ∧ w'.cell? ⟨w6.heap.size, 1, none⟩ = some (.slice u6.A u6.n u6.c) ∧ w'.cell? ⟨w6.heap.size, 2, none⟩ = some (.slice u6.B u6.m u6.d) ∧ w'.cell? ⟨w6.heap.size, 3, none⟩ = some (.bool v6.s) ∧ w'.cell? ⟨w6.heap.size, 4, none⟩ = some (.slice v6.A v6.n v6.c) ∧ w'.cell? ⟨w6.heap.size, 5, none⟩ = some (.slice v6.B v6.m v6.d) ∧ w'.cell? ⟨g13, 0, none⟩ = some (.bool u9.s) ∧ w'.cell? ⟨g13, 1, none⟩ = some (.slice u9.A u9.n u9.c) ∧ w'.cell? ⟨g13, 2, none⟩ = some (.slice u9.B u9.m u9.d) ∧ w'.cell? ⟨g13, 3, none⟩ = some (.bool u10.s) ∧ w'.cell? ⟨g13, 4, none⟩ = some (.slice u10.A u10.n u10.c) ∧ w'.cell? ⟨g13, 5, none⟩ = some (.slice u10.B u10.m u10.d) ∧ w'.cell? ⟨g13, 6, none⟩ = some (.bool u11.s) ∧ w'.cell? ⟨g13, 7, none⟩ = some (.slice u11.A u11.n u11.c) ∧ w'.cell? ⟨g13, 8, none⟩ = some (.slice u11.B u11.m u11.d) ∧ w'.cell? ⟨g13, 9, none⟩ = some (.bool u12.s) ∧ w'.cell? ⟨g13, 10, none⟩ = some (.slice u12.A u12.n u12.c) ∧ w'.cell? ⟨g13, 11, none⟩ = some (.slice u12.B u12.m u12.d)) (by kernel_rfl) ?_ (fun hHeld => ?_)
            · (try dsimp only); exact ⟨bp_44.cell0, bp_44.cell1, bp_44.cell2, bp_44.cell3, bp_44.cell4, bp_44.cell5, be_44.cell0, be_44.cell1, be_44.cell2, be_44.cell3, be_44.cell4, be_44.cell5, be_44.cell6, be_44.cell7, be_44.cell8, be_44.cell9, be_44.cell10, be_44.cell11⟩
            refine wpAnyH_take (i := 0) (v := ?_) rfl (by kernel_rfl) (by kernel_rfl) (by kernel_rfl) (fun _ _ _ h => h) (Or.inl ⟨by rfl, ?_⟩) (by assumption) ?_
            rotate_left 1
            · (intro w9 hSw; (try dsimp only at hSw); go_simp; try with_reducible rfl)
            try simp only [Act.put, List.getElem_toArray, List.getElem_cons_succ, List.getElem_cons_zero, List.setIfInBounds_toArray, List.set_cons_zero, List.set_cons_succ]
            refine wpAnyH_take (i := 1) (v := ?_) rfl (by kernel_rfl) (by kernel_rfl) (by kernel_rfl) (fun _ _ _ h => h) (Or.inl ⟨by rfl, ?_⟩) (by assumption) ?_
            rotate_left 1
            · (intro w9 hSw; (try dsimp only at hSw); go_simp; try with_reducible rfl)
            try simp only [Act.put, List.getElem_toArray, List.getElem_cons_succ, List.getElem_cons_zero, List.setIfInBounds_toArray, List.set_cons_zero, List.set_cons_succ]
            refine wpAnyH_take (i := 2) (v := undef) rfl (by kernel_rfl) (by kernel_rfl) (by kernel_rfl) (fun _ _ _ h => h) (Or.inr ⟨by rfl, rfl⟩) (by assumption) ?_
            try simp only [Act.put, List.getElem_toArray, List.getElem_cons_succ, List.getElem_cons_zero, List.setIfInBounds_toArray, List.set_cons_zero, List.set_cons_succ]
            refine wpAnyH_take (i := 3) (v := undef) rfl (by kernel_rfl) (by kernel_rfl) (by kernel_rfl) (fun _ _ _ h => h) (Or.inr ⟨by rfl, rfl⟩) (by assumption) ?_
            try simp only [Act.put, List.getElem_toArray, List.getElem_cons_succ, List.getElem_cons_zero, List.setIfInBounds_toArray, List.set_cons_zero, List.set_cons_succ]
            refine wpAnyH_take (i := 4) (v := undef) rfl (by kernel_rfl) (by kernel_rfl) (by kernel_rfl) (fun _ _ _ h => h) (Or.inr ⟨by rfl, rfl⟩) (by assumption) ?_
            try simp only [Act.put, List.getElem_toArray, List.getElem_cons_succ, List.getElem_cons_zero, List.setIfInBounds_toArray, List.set_cons_zero, List.set_cons_succ]
            refine wpAnyH_take (i := 5) (v := undef) rfl (by kernel_rfl) (by kernel_rfl) (by kernel_rfl) (fun _ _ _ h => h) (Or.inr ⟨by rfl, rfl⟩) (by assumption) ?_
            try simp only [Act.put, List.getElem_toArray, List.getElem_cons_succ, List.getElem_cons_zero, List.setIfInBounds_toArray, List.set_cons_zero, List.set_cons_succ]
            refine wpAnyH_take (i := 6) (v := undef) rfl (by kernel_rfl) (by kernel_rfl) (by kernel_rfl) (fun _ _ _ h => h) (Or.inr ⟨by rfl, rfl⟩) (by assumption) ?_
            try simp only [Act.put, List.getElem_toArray, List.getElem_cons_succ, List.getElem_cons_zero, List.setIfInBounds_toArray, List.set_cons_zero, List.set_cons_succ]
            refine wpAnyH_take (i := 7) (v := undef) rfl (by kernel_rfl) (by kernel_rfl) (by kernel_rfl) (fun _ _ _ h => h) (Or.inr ⟨by rfl, rfl⟩) (by assumption) ?_
            try simp only [Act.put, List.getElem_toArray, List.getElem_cons_succ, List.getElem_cons_zero, List.setIfInBounds_toArray, List.set_cons_zero, List.set_cons_succ]
            refine wpAnyH_take (i := 8) (v := ?_) rfl (by kernel_rfl) (by kernel_rfl) (by kernel_rfl) (fun _ _ _ h => h) (Or.inl ⟨by rfl, ?_⟩) (by assumption) ?_
            rotate_left 1
            · (intro w9 hSw; (try dsimp only at hSw); go_simp; try with_reducible rfl)
            try simp only [Act.put, List.getElem_toArray, List.getElem_cons_succ, List.getElem_cons_zero, List.setIfInBounds_toArray, List.set_cons_zero, List.set_cons_succ]
            refine wpAnyH_take (i := 9) (v := ?_) rfl (by kernel_rfl) (by kernel_rfl) (by kernel_rfl) (fun _ _ _ h => h) (Or.inl ⟨by rfl, ?_⟩) (by assumption) ?_
            rotate_left 1
            · (intro w9 hSw; (try dsimp only at hSw); go_simp; try with_reducible rfl)
            try simp only [Act.put, List.getElem_toArray, List.getElem_cons_succ, List.getElem_cons_zero, List.setIfInBounds_toArray, List.set_cons_zero, List.set_cons_succ]
            refine wpAnyH_done (by kernel_rfl) ?_ _
            go_wp2
            go_roundw
            case rel => exact ⟨3, rl, true, by omega, rfl, rfl, rfl, bp_44, be_44, m1_44, m2_44, e0_44, e1_44, e2_44, e3_44, F44, hide ⟨seen_s2 HR.out.1 (.inr ⟨rfl, HRL.out⟩), seen_s2 HR.out.2 (.inl ⟨rfl, rfl⟩)⟩⟩
            case measure => simp only [intOf]; omega
        · rcases hi with _ | _
          · obtain ⟨rl, hrl⟩ : ∃ r, decide (A1 = z2) = r := ⟨_, rfl⟩
            obtain ⟨rh, hrh⟩ : ∃ r, decide (B1 = z2) = r := ⟨_, rfl⟩
            have HRL := hide hrl
            have HRH := hide hrh
            clear hrl hrh
            have bp_u44 := Hp.cell0
            have bp_v44 := Hp.cell1
            have bp_w44 := Hp.cell2
            have bp_x44 := Hp.cell3
            have bp_y44 := Hp.cell4
            have bp_z44 := Hp.cell5
            have be_u44 := He.cell0
            have be_v44 := He.cell1
            have be_w44 := He.cell2
            have be_x44 := He.cell3
            have be_y44 := He.cell4
            have be_z44 := He.cell5
            have be_a44 := He.cell6
            have be_b44 := He.cell7
            have be_c44 := He.cell8
            have be_d44 := He.cell9
            have be_e44 := He.cell10
            have be_f44 := He.cell11
            go_wp2_with fail
            have m1_45 := K1.drew
            have m2_45 := K2.drew
            have e0_45 := E0.drew
            have e1_45 := E1.drew
            have e2_45 := E2.drew
            have e3_45 := E3.drew
            have bp_45 := Hp.drew
            have be_45 := He.drew
            have F45 := FB.drew
            refine wp_region_held_drew (S := fun w' => w'.cell? ⟨w6.heap.size, 0, none⟩ = some (.bool u6.s) ∧ w'.cell? ⟨w6.heap.size, 1, none⟩ = some (.slice u6.A u6.n u6.c) ∧ w'.cell? ⟨w6.heap.size, 2, none⟩ = some (.slice u6.B u6.m u6.d) ∧ w'.cell? ⟨w6.heap.size, 3, none⟩ = some (.bool v6.s) ∧ w'.cell? ⟨w6.heap.size, 4, none⟩ = some (.slice v6.A v6.n v6.c) ∧ w'.cell? ⟨w6.heap.size, 5, none⟩ = some (.slice v6.B v6.m v6.d) ∧ w'.cell? ⟨g13, 0, none⟩ = some (.bool u9.s) ∧ w'.cell? ⟨g13, 1, none⟩ = some (.slice u9.A u9.n u9.c) ∧ w'.cell? ⟨g13, 2, none⟩ = some (.slice u9.B u9.m u9.d) ∧ w'.cell? ⟨g13, 3, none⟩ = some (.bool u10.s) ∧ w'.cell? ⟨g13, 4, none⟩ = some (.slice u10.A u10.n u10.c) ∧ w'.cell? ⟨g13, 5, none⟩ = some (.slice u10.B u10.m u10.d) ∧ w'.cell? ⟨g13, 6, none⟩ = some (.bool u11.s) ∧ w'.cell? ⟨g13, 7, none⟩ = some (.slice u11.A u11.n u11.c) ∧ w'.cell? ⟨g13, 8, none⟩ = some (.slice u11.B u11.m u11.d) ∧ w'.cell? ⟨g13, 9, none⟩ = some (.bool u12.s) ∧ w'.cell? ⟨g13, 10, none⟩ = some (.slice u12.A u12.n u12.c) ∧ w'.cell? ⟨g13, 11, none⟩ = some (.slice u12.B u12.m u12.d)) (by kernel_rfl) ?_ (fun hHeld => ?_)
            · (try dsimp only); exact ⟨bp_45.cell0, bp_45.cell1, bp_45.cell2, bp_45.cell3, bp_45.cell4, bp_45.cell5, be_45.cell0, be_45.cell1, be_45.cell2, be_45.cell3, be_45.cell4, be_45.cell5, be_45.cell6, be_45.cell7, be_45.cell8, be_45.cell9, be_45.cell10, be_45.cell11⟩
            refine wpAnyH_take (i := 0) (v := ?_) rfl (by kernel_rfl) (by kernel_rfl) (by kernel_rfl) (fun _ _ _ h => h) (Or.inl ⟨by rfl, ?_⟩) (by assumption) ?_
            rotate_left 1
            · (intro w9 hSw; (try dsimp only at hSw); go_simp; try with_reducible rfl)
            try simp only [Act.put, List.getElem_toArray, List.getElem_cons_succ, List.getElem_cons_zero, List.setIfInBounds_toArray, List.set_cons_zero, List.set_cons_succ]
            refine wpAnyH_take (i := 1) (v := ?_) rfl (by kernel_rfl) (by kernel_rfl) (by kernel_rfl) (fun _ _ _ h => h) (Or.inl ⟨by rfl, ?_⟩) (by assumption) ?_
            rotate_left 1
            · (intro w9 hSw; (try dsimp only at hSw); go_simp; try with_reducible rfl)
            try simp only [Act.put, List.getElem_toArray, List.getElem_cons_succ, List.getElem_cons_zero, List.setIfInBounds_toArray, List.set_cons_zero, List.set_cons_succ]
            refine wpAnyH_take (i := 2) (v := undef) rfl (by kernel_rfl) (by kernel_rfl) (by kernel_rfl) (fun _ _ _ h => h) (Or.inr ⟨by rfl, rfl⟩) (by assumption) ?_
            try simp only [Act.put, List.getElem_toArray, List.getElem_cons_succ, List.getElem_cons_zero, List.setIfInBounds_toArray, List.set_cons_zero, List.set_cons_succ]
            refine wpAnyH_take (i := 3) (v := undef) rfl (by kernel_rfl) (by kernel_rfl) (by kernel_rfl) (fun _ _ _ h => h) (Or.inr ⟨by rfl, rfl⟩) (by assumption) ?_
            try simp only [Act.put, List.getElem_toArray, List.getElem_cons_succ, List.getElem_cons_zero, List.setIfInBounds_toArray, List.set_cons_zero, List.set_cons_succ]
            refine wpAnyH_take (i := 4) (v := undef) rfl (by kernel_rfl) (by kernel_rfl) (by kernel_rfl) (fun _ _ _ h => h) (Or.inr ⟨by rfl, rfl⟩) (by assumption) ?_
            try simp only [Act.put, List.getElem_toArray, List.getElem_cons_succ, List.getElem_cons_zero, List.setIfInBounds_toArray, List.set_cons_zero, List.set_cons_succ]
            refine wpAnyH_take (i := 5) (v := undef) rfl (by kernel_rfl) (by kernel_rfl) (by kernel_rfl) (fun _ _ _ h => h) (Or.inr ⟨by rfl, rfl⟩) (by assumption) ?_
            try simp only [Act.put, List.getElem_toArray, List.getElem_cons_succ, List.getElem_cons_zero, List.setIfInBounds_toArray, List.set_cons_zero, List.set_cons_succ]
            refine wpAnyH_take (i := 6) (v := undef) rfl (by kernel_rfl) (by kernel_rfl) (by kernel_rfl) (fun _ _ _ h => h) (Or.inr ⟨by rfl, rfl⟩) (by assumption) ?_
            try simp only [Act.put, List.getElem_toArray, List.getElem_cons_succ, List.getElem_cons_zero, List.setIfInBounds_toArray, List.set_cons_zero, List.set_cons_succ]
            refine wpAnyH_take (i := 7) (v := undef) rfl (by kernel_rfl) (by kernel_rfl) (by kernel_rfl) (fun _ _ _ h => h) (Or.inr ⟨by rfl, rfl⟩) (by assumption) ?_
            try simp only [Act.put, List.getElem_toArray, List.getElem_cons_succ, List.getElem_cons_zero, List.setIfInBounds_toArray, List.set_cons_zero, List.set_cons_succ]
            refine wpAnyH_take (i := 8) (v := ?_) rfl (by kernel_rfl) (by kernel_rfl) (by kernel_rfl) (fun _ _ _ h => h) (Or.inl ⟨by rfl, ?_⟩) (by assumption) ?_
            rotate_left 1
            · (intro w9 hSw; (try dsimp only at hSw); go_simp; try with_reducible rfl)
            try simp only [Act.put, List.getElem_toArray, List.getElem_cons_succ, List.getElem_cons_zero, List.setIfInBounds_toArray, List.set_cons_zero, List.set_cons_succ]
            refine wpAnyH_take (i := 9) (v := ?_) rfl (by kernel_rfl) (by kernel_rfl) (by kernel_rfl) (fun _ _ _ h => h) (Or.inl ⟨by rfl, ?_⟩) (by assumption) ?_
            rotate_left 1
            · (intro w9 hSw; (try dsimp only at hSw); go_simp; try with_reducible rfl)
            try simp only [Act.put, List.getElem_toArray, List.getElem_cons_succ, List.getElem_cons_zero, List.setIfInBounds_toArray, List.set_cons_zero, List.set_cons_succ]
            refine wpAnyH_done (by kernel_rfl) ?_ _
            go_wp2_with fail
            have m1_46 := m1_45.drew
            have m2_46 := m2_45.drew
            have e0_46 := e0_45.drew
            have e1_46 := e1_45.drew
            have e2_46 := e2_45.drew
            have e3_46 := e3_45.drew
            have bp_46 := bp_45.drew
            have be_46 := be_45.drew
            have F46 := F45.drew
            go_region_held3 (fun w' => w'.cell? ⟨w6.heap.size, 0, none⟩ = some (.bool u6.s) ∧ w'.cell? ⟨w6.heap.size, 1, none⟩ = some (.slice u6.A u6.n u6.c) ∧ w'.cell? ⟨w6.heap.size, 2, none⟩ = some (.slice u6.B u6.m u6.d) ∧ w'.cell? ⟨w6.heap.size, 3, none⟩ = some (.bool v6.s) ∧ w'.cell? ⟨w6.heap.size, 4, none⟩ = some (.slice v6.A v6.n v6.c) ∧ w'.cell? ⟨w6.heap.size, 5, none⟩ = some (.slice v6.B v6.m v6.d) ∧ w'.cell? ⟨g13, 0, none⟩ = some (.bool u9.s) ∧ w'.cell? ⟨g13, 1, none⟩ = some (.slice u9.A u9.n u9.c) ∧ w'.cell? ⟨g13, 2, none⟩ = some (.slice u9.B u9.m u9.d) ∧ w'.cell? ⟨g13, 3, none⟩ = some (.bool u10.s) ∧ w'.cell? ⟨g13, 4, none⟩ = some (.slice u10.A u10.n u10.c) ∧ w'.cell? ⟨g13, 5, none⟩ = some (.slice u10.B u10.m u10.d) ∧ w'.cell? ⟨g13, 6, none⟩ = some (.bool u11.s) ∧ w'.cell? ⟨g13, 7, none⟩ = some (.slice u11.A u11.n u11.c) ∧ w'.cell? ⟨g13, 8, none⟩ = some (.slice u11.B u11.m u11.d) ∧ w'.cell? ⟨g13, 9, none⟩ = some (.bool u12.s) ∧ w'.cell? ⟨g13, 10, none⟩ = some (.slice u12.A u12.n u12.c) ∧ w'.cell? ⟨g13, 11, none⟩ = some (.slice u12.B u12.m u12.d))
              (first
                | with_reducible exact ⟨bp_47.cell0, bp_47.cell1, bp_47.cell2, bp_47.cell3, bp_47.cell4, bp_47.cell5, be_47.cell0, be_47.cell1, be_47.cell2, be_47.cell3, be_47.cell4, be_47.cell5, be_47.cell6, be_47.cell7, be_47.cell8, be_47.cell9, be_47.cell10, be_47.cell11⟩
                | with_reducible exact ⟨bp_46.cell0, bp_46.cell1, bp_46.cell2, bp_46.cell3, bp_46.cell4, bp_46.cell5, be_46.cell0, be_46.cell1, be_46.cell2, be_46.cell3, be_46.cell4, be_46.cell5, be_46.cell6, be_46.cell7, be_46.cell8, be_46.cell9, be_46.cell10, be_46.cell11⟩
                | fail)
              (first
                | (go_at_call 34; (with_reducible refine (sameb_u _ _ B1 z2 rh _ HRH.out m2_46 e2_46 ((m2_46.len sB1).mono k4) ((e2_46.len t3).mono k4)).mono ?_); rintro e w47 ⟨rfl, b47⟩; have m1_47 := m1_46.below b47; have m2_47 := m2_46.below b47; have e0_47 := e0_46.below b47; have e1_47 := e1_46.below b47; have e2_47 := e2_46.below b47; have e3_47 := e3_46.below b47; have bp_47 := bp_46.below b47 bp_46.lt; have be_47 := be_46.below b47 be_46.lt; have F47 := below_then F46 (Nat.le_refl _) b47)
                | fail)
            have bp_u47 := bp_47.cell0
            have bp_v47 := bp_47.cell1
            have bp_w47 := bp_47.cell2
            have bp_x47 := bp_47.cell3
            have bp_y47 := bp_47.cell4
            have bp_z47 := bp_47.cell5
            have be_u47 := be_47.cell0
            have be_v47 := be_47.cell1
            have be_w47 := be_47.cell2
            have be_x47 := be_47.cell3
            have be_y47 := be_47.cell4
            have be_z47 := be_47.cell5
            have be_a47 := be_47.cell6
            have be_b47 := be_47.cell7
            have be_c47 := be_47.cell8
            have be_d47 := be_47.cell9
            have be_e47 := be_47.cell10
            have be_f47 := be_47.cell11
            go_wp2
            go_roundw
            case rel => exact ⟨3, true, rh, by omega, rfl, rfl, rfl, bp_47, be_47, m1_47, m2_47, e0_47, e1_47, e2_47, e3_47, F47, hide ⟨seen_s2 HR.out.1 (.inl ⟨rfl, rfl⟩), seen_s2 HR.out.2 (.inr ⟨rfl, HRH.out⟩)⟩⟩
            case measure => simp only [intOf]; omega
          · obtain ⟨rl, hrl⟩ : ∃ r, decide (A1 = z2) = r := ⟨_, rfl⟩
            obtain ⟨rh, hrh⟩ : ∃ r, decide (B1 = z2) = r := ⟨_, rfl⟩
            have HRL := hide hrl
            have HRH := hide hrh
            clear hrl hrh
            have bp_u47 := Hp.cell0
            have bp_v47 := Hp.cell1
            have bp_w47 := Hp.cell2
            have bp_x47 := Hp.cell3
            have bp_y47 := Hp.cell4
            have bp_z47 := Hp.cell5
            have be_u47 := He.cell0
            have be_v47 := He.cell1
            have be_w47 := He.cell2
            have be_x47 := He.cell3
            have be_y47 := He.cell4
            have be_z47 := He.cell5
            have be_a47 := He.cell6
            have be_b47 := He.cell7
            have be_c47 := He.cell8
            have be_d47 := He.cell9
            have be_e47 := He.cell10
            have be_f47 := He.cell11
            go_wp2_with fail
            have m1_48 := K1.drew
            have m2_48 := K2.drew
            have e0_48 := E0.drew
            have e1_48 := E1.drew
            have e2_48 := E2.drew
            have e3_48 := E3.drew
            have bp_48 := Hp.drew
            have be_48 := He.drew
            have F48 := FB.drew
            refine wp_region_held_drew (S := fun w' => w'.cell? ⟨w6.heap.size, 0, none⟩ = some (.bool u6.s) ∧ w'.cell? ⟨w6.heap.size, 1, none⟩ = some (.slice u6.A u6.n u6.c) ∧ w'.cell? ⟨w6.heap.size, 2, none⟩ = some (.slice u6.B u6.m u6.d) ∧ w'.cell? ⟨w6.heap.size, 3, none⟩ = some (.bool v6.s) ∧ w'.cell? ⟨w6.heap.size, 4, none⟩ = some (.slice v6.A v6.n v6.c) ∧ w'.cell? ⟨w6.heap.size, 5, none⟩ = some (.slice v6.B v6.m v6.d) ∧ w'.cell? ⟨g13, 0, none⟩ = some (.bool u9.s) ∧ w'.cell? ⟨g13, 1, none⟩ = some (.slice u9.A u9.n u9.c) ∧ w'.cell? ⟨g13, 2, none⟩ = some (.slice u9.B u9.m u9.d) ∧ w'.cell? ⟨g13, 3, none⟩ = some (.bool u10.s) ∧ w'.cell? ⟨g13, 4, none⟩ = some (.slice u10.A u10.n u10.c) ∧ w'.cell? ⟨g13, 5, none⟩ = some (.slice u10.B u10.m u10.d) ∧ w'.cell? ⟨g13, 6, none⟩ = some (.bool u11.s) ∧ w'.cell? ⟨g13, 7, none⟩ = some (.slice u11.A u11.n u11.c) ∧ w'.cell? ⟨g13, 8, none⟩ = some (.slice u11.B u11.m u11.d) ∧ w'.cell? ⟨g13, 9, none⟩ = some (.bool u12.s) ∧ w'.cell? ⟨g13, 10, none⟩ = some (.slice u12.A u12.n u12.c) ∧ w'.cell? ⟨g13, 11, none⟩ = some (.slice u12.B u12.m u12.d)) (by kernel_rfl) ?_ (fun hHeld => ?_)
            · (try dsimp only); exact ⟨bp_48.cell0, bp_48.cell1, bp_48.cell2, bp_48.cell3, bp_48.cell4, bp_48.cell5, be_48.cell0, be_48.cell1, be_48.cell2, be_48.cell3, be_48.cell4, be_48.cell5, be_48.cell6, be_48.cell7, be_48.cell8, be_48.cell9, be_48.cell10, be_48.cell11⟩
            refine wpAnyH_take (i := 0) (v := ?_) rfl (by kernel_rfl) (by kernel_rfl) (by kernel_rfl) (fun _ _ _ h => h) (Or.inl ⟨by rfl, ?_⟩) (by assumption) ?_
            rotate_left 1
            · (intro w9 hSw; (try dsimp only at hSw); go_simp; try with_reducible rfl)
            try simp only [Act.put, List.getElem_toArray, List.getElem_cons_succ, List.getElem_cons_zero, List.setIfInBounds_toArray, List.set_cons_zero, List.set_cons_succ]
            refine wpAnyH_take (i := 1) (v := ?_) rfl (by kernel_rfl) (by kernel_rfl) (by kernel_rfl) (fun _ _ _ h => h) (Or.inl ⟨by rfl, ?_⟩) (by assumption) ?_
            rotate_left 1
            · (intro w9 hSw; (try dsimp only at hSw); go_simp; try with_reducible rfl)
            try simp only [Act.put, List.getElem_toArray, List.getElem_cons_succ, List.getElem_cons_zero, List.setIfInBounds_toArray, List.set_cons_zero, List.set_cons_succ]
            refine wpAnyH_take (i := 2) (v := undef) rfl (by kernel_rfl) (by kernel_rfl) (by kernel_rfl) (fun _ _ _ h => h) (Or.inr ⟨by rfl, rfl⟩) (by assumption) ?_
            try simp only [Act.put, List.getElem_toArray, List.getElem_cons_succ, List.getElem_cons_zero, List.setIfInBounds_toArray, List.set_cons_zero, List.set_cons_succ]
            refine wpAnyH_take (i := 3) (v := undef) rfl (by kernel_rfl) (by kernel_rfl) (by kernel_rfl) (fun _ _ _ h => h) (Or.inr ⟨by rfl, rfl⟩) (by assumption) ?_
            try simp only [Act.put, List.getElem_toArray, List.getElem_cons_succ, List.getElem_cons_zero, List.setIfInBounds_toArray, List.set_cons_zero, List.set_cons_succ]
            refine wpAnyH_take (i := 4) (v := undef) rfl (by kernel_rfl) (by kernel_rfl) (by kernel_rfl) (fun _ _ _ h => h) (Or.inr ⟨by rfl, rfl⟩) (by assumption) ?_
            try simp only [Act.put, List.getElem_toArray, List.getElem_cons_succ, List.getElem_cons_zero, List.setIfInBounds_toArray, List.set_cons_zero, List.set_cons_succ]
            refine wpAnyH_take (i := 5) (v := undef) rfl (by kernel_rfl) (by kernel_rfl) (by kernel_rfl) (fun _ _ _ h => h) (Or.inr ⟨by rfl, rfl⟩) (by assumption) ?_
            try simp only [Act.put, List.getElem_toArray, List.getElem_cons_succ, List.getElem_cons_zero, List.setIfInBounds_toArray, List.set_cons_zero, List.set_cons_succ]
            refine wpAnyH_take (i := 6) (v := undef) rfl (by kernel_rfl) (by kernel_rfl) (by kernel_rfl) (fun _ _ _ h => h) (Or.inr ⟨by rfl, rfl⟩) (by assumption) ?_
            try simp only [Act.put, List.getElem_toArray, List.getElem_cons_succ, List.getElem_cons_zero, List.setIfInBounds_toArray, List.set_cons_zero, List.set_cons_succ]
            refine wpAnyH_take (i := 7) (v := undef) rfl (by kernel_rfl) (by kernel_rfl) (by kernel_rfl) (fun _ _ _ h => h) (Or.inr ⟨by rfl, rfl⟩) (by assumption) ?_
            try simp only [Act.put, List.getElem_toArray, List.getElem_cons_succ, List.getElem_cons_zero, List.setIfInBounds_toArray, List.set_cons_zero, List.set_cons_succ]
            refine wpAnyH_take (i := 8) (v := ?_) rfl (by kernel_rfl) (by kernel_rfl) (by kernel_rfl) (fun _ _ _ h => h) (Or.inl ⟨by rfl, ?_⟩) (by assumption) ?_
            rotate_left 1
            · (intro w9 hSw; (try dsimp only at hSw); go_simp; try with_reducible rfl)
            try simp only [Act.put, List.getElem_toArray, List.getElem_cons_succ, List.getElem_cons_zero, List.setIfInBounds_toArray, List.set_cons_zero, List.set_cons_succ]
            refine wpAnyH_take (i := 9) (v := ?_) rfl (by kernel_rfl) (by kernel_rfl) (by kernel_rfl) (fun _ _ _ h => h) (Or.inl ⟨by rfl, ?_⟩) (by assumption) ?_
            rotate_left 1
            · (intro w9 hSw; (try dsimp only at hSw); go_simp; try with_reducible rfl)
            try simp only [Act.put, List.getElem_toArray, List.getElem_cons_succ, List.getElem_cons_zero, List.setIfInBounds_toArray, List.set_cons_zero, List.set_cons_succ]
            refine wpAnyH_done (by kernel_rfl) ?_ _
            go_wp2_with fail
            have m1_49 := m1_48.drew
            have m2_49 := m2_48.drew
            have e0_49 := e0_48.drew
            have e1_49 := e1_48.drew
            have e2_49 := e2_48.drew
            have e3_49 := e3_48.drew
            have bp_49 := bp_48.drew
            have be_49 := be_48.drew
            have F49 := F48.drew
            refine wp_region_held_drew (S := fun w' => w'.cell? ⟨w6.heap.size, 0, none⟩ = some (.bool u6.s) ∧ w'.cell? ⟨w6.heap.size, 1, none⟩ = some (.slice u6.A u6.n u6.c) ∧ w'.cell? ⟨w6.heap.size, 2, none⟩ = some (.slice u6.B u6.m u6.d) ∧ w'.cell? ⟨w6.heap.size, 3, none⟩ = some (.bool v6.s) ∧ w'.cell? ⟨w6.heap.size, 4, none⟩ = some (.slice v6.A v6.n v6.c) ∧ w'.cell? ⟨w6.heap.size, 5, none⟩ = some (.slice v6.B v6.m v6.d) ∧ w'.cell? ⟨g13, 0, none⟩ = some (.bool u9.s) ∧ w'.cell? ⟨g13, 1, none⟩ = some (.slice u9.A u9.n u9.c) ∧ w'.cell? ⟨g13, 2, none⟩ = some (.slice u9.B u9.m u9.d) ∧ w'.cell? ⟨g13, 3, none⟩ = some (.bool u10.s) ∧ w'.cell? ⟨g13, 4, none⟩ = some (.slice u10.A u10.n u10.c) ∧ w'.cell? ⟨g13, 5, none⟩ = some (.slice u10.B u10.m u10.d) ∧ w'.cell? ⟨g13, 6, none⟩ = some (.bool u11.s) ∧ w'.cell? ⟨g13, 7, none⟩ = some (.slice u11.A u11.n u11.c) ∧ w'.cell? ⟨g13, 8, none⟩ = some (.slice u11.B u11.m u11.d) ∧ w'.cell? ⟨g13, 9, none⟩ = some (.bool u12.s) ∧ w'.cell? ⟨g13, 10, none⟩ = some (.slice u12.A u12.n u12.c) ∧ w'.cell? ⟨g13, 11, none⟩ = some (.slice u12.B u12.m u12.d)) (by kernel_rfl) ?_ (fun hHeld => ?_)
            · (try dsimp only); exact ⟨bp_49.cell0, bp_49.cell1, bp_49.cell2, bp_49.cell3, bp_49.cell4, bp_49.cell5, be_49.cell0, be_49.cell1, be_49.cell2, be_49.cell3, be_49.cell4, be_49.cell5, be_49.cell6, be_49.cell7, be_49.cell8, be_49.cell9, be_49.cell10, be_49.cell11⟩
            refine wpAnyH_take (i := 0) (v := ?_) rfl (by kernel_rfl) (by kernel_rfl) (by kernel_rfl) (fun _ _ _ h => h) (Or.inl ⟨by rfl, ?_⟩) (by assumption) ?_
            rotate_left 1
            · (intro w9 hSw; (try dsimp only at hSw); go_simp; try with_reducible rfl)
            try simp only [Act.put, List.getElem_toArray, List.getElem_cons_succ, List.getElem_cons_zero, List.setIfInBounds_toArray, List.set_cons_zero, List.set_cons_succ]
            refine wpAnyH_take (i := 1) (v := ?_) rfl (by kernel_rfl) (by kernel_rfl) (by kernel_rfl) (fun _ _ _ h => h) (Or.inl ⟨by rfl, ?_⟩) (by assumption) ?_
            rotate_left 1
            · (intro w9 hSw; (try dsimp only at hSw); go_simp; try with_reducible rfl)
            try simp only [Act.put, List.getElem_toArray, List.getElem_cons_succ, List.getElem_cons_zero, List.setIfInBounds_toArray, List.set_cons_zero, List.set_cons_succ]
            refine wpAnyH_take (i := 2) (v := undef) rfl (by kernel_rfl) (by kernel_rfl) (by kernel_rfl) (fun _ _ _ h => h) (Or.inr ⟨by rfl, rfl⟩) (by assumption) ?_
            try simp only [Act.put, List.getElem_toArray, List.getElem_cons_succ, List.getElem_cons_zero, List.setIfInBounds_toArray, List.set_cons_zero, List.set_cons_succ]
            refine wpAnyH_take (i := 3) (v := undef) rfl (by kernel_rfl) (by kernel_rfl) (by kernel_rfl) (fun _ _ _ h => h) (Or.inr ⟨by rfl, rfl⟩) (by assumption) ?_
            try simp only [Act.put, List.getElem_toArray, List.getElem_cons_succ, List.getElem_cons_zero, List.setIfInBounds_toArray, List.set_cons_zero, List.set_cons_succ]
            refine wpAnyH_take (i := 4) (v := undef) rfl (by kernel_rfl) (by kernel_rfl) (by kernel_rfl) (fun _ _ _ h => h) (Or.inr ⟨by rfl, rfl⟩) (by assumption) ?_
            try simp only [Act.put, List.getElem_toArray, List.getElem_cons_succ, List.getElem_cons_zero, List.setIfInBounds_toArray, List.set_cons_zero, List.set_cons_succ]
            refine wpAnyH_take (i := 5) (v := undef) rfl (by kernel_rfl) (by kernel_rfl) (by kernel_rfl) (fun _ _ _ h => h) (Or.inr ⟨by rfl, rfl⟩) (by assumption) ?_
            try simp only [Act.put, List.getElem_toArray, List.getElem_cons_succ, List.getElem_cons_zero, List.setIfInBounds_toArray, List.set_cons_zero, List.set_cons_succ]
            refine wpAnyH_take (i := 6) (v := undef) rfl (by kernel_rfl) (by kernel_rfl) (by kernel_rfl) (fun _ _ _ h => h) (Or.inr ⟨by rfl, rfl⟩) (by assumption) ?_
            try simp only [Act.put, List.getElem_toArray, List.getElem_cons_succ, List.getElem_cons_zero, List.setIfInBounds_toArray, List.set_cons_zero, List.set_cons_succ]
            refine wpAnyH_take (i := 7) (v := undef) rfl (by kernel_rfl) (by kernel_rfl) (by kernel_rfl) (fun _ _ _ h => h) (Or.inr ⟨by rfl, rfl⟩) (by assumption) ?_
            try simp only [Act.put, List.getElem_toArray, List.getElem_cons_succ, List.getElem_cons_zero, List.setIfInBounds_toArray, List.set_cons_zero, List.set_cons_succ]
            refine wpAnyH_take (i := 8) (v := ?_) rfl (by kernel_rfl) (by kernel_rfl) (by kernel_rfl) (fun _ _ _ h => h) (Or.inl ⟨by rfl, ?_⟩) (by assumption) ?_
            rotate_left 1
            · (intro w9 hSw; (try dsimp only at hSw); go_simp; try with_reducible rfl)
            try simp only [Act.put, List.getElem_toArray, List.getElem_cons_succ, List.getElem_cons_zero, List.setIfInBounds_toArray, List.set_cons_zero, List.set_cons_succ]
            refine wpAnyH_take (i := 9) (v := ?_) rfl (by kernel_rfl) (by kernel_rfl) (by kernel_rfl) (fun _ _ _ h => h) (Or.inl ⟨by rfl, ?_⟩) (by assumption) ?_
            rotate_left 1
            · (intro w9 hSw; (try dsimp only at hSw); go_simp; try with_reducible rfl)
            try simp only [Act.put, List.getElem_toArray, List.getElem_cons_succ, List.getElem_cons_zero, List.setIfInBounds_toArray, List.set_cons_zero, List.set_cons_succ]
            refine wpAnyH_done (by kernel_rfl) ?_ _
            go_wp2
            go_roundw
            case rel => exact ⟨3, true, true, by omega, rfl, rfl, rfl, bp_49, be_49, m1_49, m2_49, e0_49, e1_49, e2_49, e3_49, F49, hide ⟨seen_s2 HR.out.1 (.inl ⟨rfl, rfl⟩), seen_s2 HR.out.2 (.inl ⟨rfl, rfl⟩)⟩⟩
            case measure => simp only [intOf]; omega
      · rcases lo with _ | _
        · rcases hi with _ | _
          · obtain ⟨rl, hrl⟩ : ∃ r, decide (A1 = z3) = r := ⟨_, rfl⟩
            obtain ⟨rh, hrh⟩ : ∃ r, decide (B1 = z3) = r := ⟨_, rfl⟩
            have HRL := hide hrl
            have HRH := hide hrh
            clear hrl hrh
            have bp_u49 := Hp.cell0
            have bp_v49 := Hp.cell1
            have bp_w49 := Hp.cell2
            have bp_x49 := Hp.cell3
            have bp_y49 := Hp.cell4
            have bp_z49 := Hp.cell5
            have be_u49 := He.cell0
            have be_v49 := He.cell1
            have be_w49 := He.cell2
            have be_x49 := He.cell3
            have be_y49 := He.cell4
            have be_z49 := He.cell5
            have be_a49 := He.cell6
            have be_b49 := He.cell7
            have be_c49 := He.cell8
            have be_d49 := He.cell9
            have be_e49 := He.cell10
            have be_f49 := He.cell11
            go_wp2_with fail
            have m1_50 := K1.drew
            have m2_50 := K2.drew
            have e0_50 := E0.drew
            have e1_50 := E1.drew
            have e2_50 := E2.drew
            have e3_50 := E3.drew
            have bp_50 := Hp.drew
            have be_50 := He.drew
            have F50 := FB.drew
            go_region_held3 (fun w' => w'.cell? ⟨w6.heap.size, 0, none⟩ = some (.bool u6.s) ∧ w'.cell? ⟨w6.heap.size, 1, none⟩ = some (.slice u6.A u6.n u6.c) ∧ w'.cell? ⟨w6.heap.size, 2, none⟩ = some (.slice u6.B u6.m u6.d) ∧ w'.cell? ⟨w6.heap.size, 3, none⟩ = some (.bool v6.s) ∧ w'.cell? ⟨w6.heap.size, 4, none⟩ = some (.slice v6.A v6.n v6.c) ∧ w'.cell? ⟨w6.heap.size, 5, none⟩ = some (.slice v6.B v6.m v6.d) ∧ w'.cell? ⟨g13, 0, none⟩ = some (.bool u9.s) ∧ w'.cell? ⟨g13, 1, none⟩ = some (.slice u9.A u9.n u9.c) ∧ w'.cell? ⟨g13, 2, none⟩ = some (.slice u9.B u9.m u9.d) ∧ w'.cell? ⟨g13, 3, none⟩ = some (.bool u10.s) ∧ w'.cell? ⟨g13, 4, none⟩ = some (.slice u10.A u10.n u10.c) ∧ w'.cell? ⟨g13, 5, none⟩ = some (.slice u10.B u10.m u10.d) ∧ w'.cell? ⟨g13, 6, none⟩ = some (.bool u11.s) ∧ w'.cell? ⟨g13, 7, none⟩ = some (.slice u11.A u11.n u11.c) ∧ w'.cell? ⟨g13, 8, none⟩ = some (.slice u11.B u11.m u11.d) ∧ w'.cell? ⟨g13, 9, none⟩ = some (.bool u12.s) ∧ w'.cell? ⟨g13, 10, none⟩ = some (.slice u12.A u12.n u12.c) ∧ w'.cell? ⟨g13, 11, none⟩ = some (.slice u12.B u12.m u12.d))
              (first
                | with_reducible exact ⟨bp_51.cell0, bp_51.cell1, bp_51.cell2, bp_51.cell3, bp_51.cell4, bp_51.cell5, be_51.cell0, be_51.cell1, be_51.cell2, be_51.cell3, be_51.cell4, be_51.cell5, be_51.cell6, be_51.cell7, be_51.cell8, be_51.cell9, be_51.cell10, be_51.cell11⟩
                | with_reducible exact ⟨bp_50.cell0, bp_50.cell1, bp_50.cell2, bp_50.cell3, bp_50.cell4, bp_50.cell5, be_50.cell0, be_50.cell1, be_50.cell2, be_50.cell3, be_50.cell4, be_50.cell5, be_50.cell6, be_50.cell7, be_50.cell8, be_50.cell9, be_50.cell10, be_50.cell11⟩
                | fail)
              (first
                | (go_at_call 34; (with_reducible refine (sameb_u _ _ A1 z3 rl _ HRL.out m1_50 e3_50 ((m1_50.len sA1).mono k4) ((e3_50.len t4).mono k4)).mono ?_); rintro e w51 ⟨rfl, b51⟩; have m1_51 := m1_50.below b51; have m2_51 := m2_50.below b51; have e0_51 := e0_50.below b51; have e1_51 := e1_50.below b51; have e2_51 := e2_50.below b51; have e3_51 := e3_50.below b51; have bp_51 := bp_50.below b51 bp_50.lt; have be_51 := be_50.below b51 be_50.lt; have F51 := below_then F50 (Nat.le_refl _) b51)
                | fail)
            have bp_u51 := bp_51.cell0
            have bp_v51 := bp_51.cell1
            have bp_w51 := bp_51.cell2
            have bp_x51 := bp_51.cell3
            have bp_y51 := bp_51.cell4
            have bp_z51 := bp_51.cell5
            have be_u51 := be_51.cell0
            have be_v51 := be_51.cell1
            have be_w51 := be_51.cell2
            have be_x51 := be_51.cell3
            have be_y51 := be_51.cell4
            have be_z51 := be_51.cell5
            have be_a51 := be_51.cell6
            have be_b51 := be_51.cell7
            have be_c51 := be_51.cell8
            have be_d51 := be_51.cell9
            have be_e51 := be_51.cell10
            have be_f51 := be_51.cell11
            go_wp2_with fail
            have m1_52 := m1_51.drew
            have m2_52 := m2_51.drew
            have e0_52 := e0_51.drew
            have e1_52 := e1_51.drew
            have e2_52 := e2_51.drew
            have e3_52 := e3_51.drew
            have bp_52 := bp_51.drew
            have be_52 := be_51.drew
            have F52 := F51.drew
            go_region_held3 (fun w' => w'.cell? ⟨w6.heap.size, 0, none⟩ = some (.bool u6.s) ∧ w'.cell? ⟨w6.heap.size, 1, none⟩ = some (.slice u6.A u6.n u6.c) ∧ w'.cell? ⟨w6.heap.size, 2, none⟩ = some (.slice u6.B u6.m u6.d) ∧ w'.cell? ⟨w6.heap.size, 3, none⟩ = some (.bool v6.s) ∧ w'.cell? ⟨w6.heap.size, 4, none⟩ = some (.slice v6.A v6.n v6.c) ∧ w'.cell? ⟨w6.heap.size, 5, none⟩ = some (.slice v6.B v6.m v6.d) ∧ w'.cell? ⟨g13, 0, none⟩ = some (.bool u9.s) ∧ w'.cell? ⟨g13, 1, none⟩ = some (.slice u9.A u9.n u9.c) ∧ w'.cell? ⟨g13, 2, none⟩ = some (.slice u9.B u9.m u9.d) ∧ w'.cell? ⟨g13, 3, none⟩ = some (.bool u10.s) ∧ w'.cell? ⟨g13, 4, none⟩ = some (.slice u10.A u10.n u10.c) ∧ w'.cell? ⟨g13, 5, none⟩ = some (.slice u10.B u10.m u10.d) ∧ w'.cell? ⟨g13, 6, none⟩ = some (.bool u11.s) ∧ w'.cell? ⟨g13, 7, none⟩ = some (.slice u11.A u11.n u11.c) ∧ w'.cell? ⟨g13, 8, none⟩ = some (.slice u11.B u11.m u11.d) ∧ w'.cell? ⟨g13, 9, none⟩ = some (.bool u12.s) ∧ w'.cell? ⟨g13, 10, none⟩ = some (.slice u12.A u12.n u12.c) ∧ w'.cell? ⟨g13, 11, none⟩ = some (.slice u12.B u12.m u12.d))
              (first
                | with_reducible exact ⟨bp_53.cell0, bp_53.cell1, bp_53.cell2, bp_53.cell3, bp_53.cell4, bp_53.cell5, be_53.cell0, be_53.cell1, be_53.cell2, be_53.cell3, be_53.cell4, be_53.cell5, be_53.cell6, be_53.cell7, be_53.cell8, be_53.cell9, be_53.cell10, be_53.cell11⟩
                | with_reducible exact ⟨bp_52.cell0, bp_52.cell1, bp_52.cell2, bp_52.cell3, bp_52.cell4, bp_52.cell5, be_52.cell0, be_52.cell1, be_52.cell2, be_52.cell3, be_52.cell4, be_52.cell5, be_52.cell6, be_52.cell7, be_52.cell8, be_52.cell9, be_52.cell10, be_52.cell11⟩
                | fail)
              (first
                | (go_at_call 34; (with_reducible refine (sameb_u _ _ B1 z3 rh _ HRH.out m2_52 e3_52 ((m2_52.len sB1).mono k4) ((e3_52.len t4).mono k4)).mono ?_); rintro e w53 ⟨rfl, b53⟩; have m1_53 := m1_52.below b53; have m2_53 := m2_52.below b53; have e0_53 := e0_52.below b53; have e1_53 := e1_52.below b53; have e2_53 := e2_52.below b53; have e3_53 := e3_52.below b53; have bp_53 := bp_52.below b53 bp_52.lt; have be_53 := be_52.below b53 be_52.lt; have F53 := below_then F52 (Nat.le_refl _) b53)
                | fail)
            have bp_u53 := bp_53.cell0
            have bp_v53 := bp_53.cell1
            have bp_w53 := bp_53.cell2
            have bp_x53 := bp_53.cell3
            have bp_y53 := bp_53.cell4
            have bp_z53 := bp_53.cell5
            have be_u53 := be_53.cell0
            have be_v53 := be_53.cell1
            have be_w53 := be_53.cell2
            have be_x53 := be_53.cell3
            have be_y53 := be_53.cell4
            have be_z53 := be_53.cell5
            have be_a53 := be_53.cell6
            have be_b53 := be_53.cell7
            have be_c53 := be_53.cell8
            have be_d53 := be_53.cell9
            have be_e53 := be_53.cell10
            have be_f53 := be_53.cell11
            go_wp2
            go_roundw
            case rel => exact ⟨4, rl, rh, by omega, rfl, rfl, rfl, bp_53, be_53, m1_53, m2_53, e0_53, e1_53, e2_53, e3_53, F53, hide ⟨seen_s3 HR.out.1 (.inr ⟨rfl, HRL.out⟩), seen_s3 HR.out.2 (.inr ⟨rfl, HRH.out⟩)⟩⟩
            case measure => simp only [intOf]; omega
          · obtain ⟨rl, hrl⟩ : ∃ r, decide (A1 = z3) = r := ⟨_, rfl⟩
            obtain ⟨rh, hrh⟩ : ∃ r, decide (B1 = z3) = r := ⟨_, rfl⟩
            have HRL := hide hrl
            have HRH := hide hrh
            clear hrl hrh
            have bp_u53 := Hp.cell0
            have bp_v53 := Hp.cell1
            have bp_w53 := Hp.cell2
            have bp_x53 := Hp.cell3
            have bp_y53 := Hp.cell4
            have bp_z53 := Hp.cell5
            have be_u53 := He.cell0
            have be_v53 := He.cell1
            have be_w53 := He.cell2
            have be_x53 := He.cell3
            have be_y53 := He.cell4
            have be_z53 := He.cell5
            have be_a53 := He.cell6
            have be_b53 := He.cell7
            have be_c53 := He.cell8
            have be_d53 := He.cell9
            have be_e53 := He.cell10
            have be_f53 := He.cell11
            go_wp2_with fail
            have m1_54 := K1.drew
            have m2_54 := K2.drew
            have e0_54 := E0.drew
            have e1_54 := E1.drew
            have e2_54 := E2.drew
            have e3_54 := E3.drew
            have bp_54 := Hp.drew
            have be_54 := He.drew
            have F54 := FB.drew
            go_region_held3 (fun w' => w'.cell? ⟨w6.heap.size, 0, none⟩ = some (.bool u6.s) ∧ w'.cell? ⟨w6.heap.size, 1, none⟩ = some (.slice u6.A u6.n u6.c) ∧ w'.cell? ⟨w6.heap.size, 2, none⟩ = some (.slice u6.B u6.m u6.d) ∧ w'.cell? ⟨w6.heap.size, 3, none⟩ = some (.bool v6.s) ∧ w'.cell? ⟨w6.heap.size, 4, none⟩ = some (.slice v6.A v6.n v6.c) ∧ w'.cell? ⟨w6.heap.size, 5, none⟩ = some (.slice v6.B v6.m v6.d) ∧ w'.cell? ⟨g13, 0, none⟩ = some (.bool u9.s) ∧ w'.cell? ⟨g13, 1, none⟩ = some (.slice u9.A u9.n u9.c) ∧ w'.cell? ⟨g13, 2, none⟩ = some (.slice u9.B u9.m u9.d) ∧ w'.cell? ⟨g13, 3, none⟩ = some (.bool u10.s) ∧ w'.cell? ⟨g13, 4, none⟩ = some (.slice u10.A u10.n u10.c) ∧ w'.cell? ⟨g13, 5, none⟩ = some (.slice u10.B u10.m u10.d) ∧ w'.cell? ⟨g13, 6, none⟩ = some (.bool u11.s) ∧ w'.cell? ⟨g13, 7, none⟩ = some (.slice u11.A u11.n u11.c) ∧ w'.cell? ⟨g13, 8, none⟩ = some (.slice u11.B u11.m u11.d) ∧ w'.cell? ⟨g13, 9, none⟩ = some (.bool u12.s) ∧ w'.cell? ⟨g13, 10, none⟩ = some (.slice u12.A u12.n u12.c) ∧ w'.cell? ⟨g13, 11, none⟩ = some (.slice u12.B u12.m u12.d))
              (first
                | with_reducible exact ⟨bp_55.cell0, bp_55.cell1, bp_55.cell2, bp_55.cell3, bp_55.cell4, bp_55.cell5, be_55.cell0, be_55.cell1, be_55.cell2, be_55.cell3, be_55.cell4, be_55.cell5, be_55.cell6, be_55.cell7, be_55.cell8, be_55.cell9, be_55.cell10, be_55.cell11⟩
                | with_reducible exact ⟨bp_54.cell0, bp_54.cell1, bp_54.cell2, bp_54.cell3, bp_54.cell4, bp_54.cell5, be_54.cell0, be_54.cell1, be_54.cell2, be_54.cell3, be_54.cell4, be_54.cell5, be_54.cell6, be_54.cell7, be_54.cell8, be_54.cell9, be_54.cell10, be_54.cell11⟩
                | fail)
              (first
                | (go_at_call 34; (with_reducible refine (sameb_u _ _ A1 z3 rl _ HRL.out m1_54 e3_54 ((m1_54.len sA1).mono k4) ((e3_54.len t4).mono k4)).mono ?_); rintro e w55 ⟨rfl, b55⟩; have m1_55 := m1_54.below b55; have m2_55 := m2_54.below b55; have e0_55 := e0_54.below b55; have e1_55 := e1_54.below b55; have e2_55 := e2_54.below b55; have e3_55 := e3_54.below b55; have bp_55 := bp_54.below b55 bp_54.lt; have be_55 := be_54.below b55 be_54.lt; have F55 := below_then F54 (Nat.le_refl _) b55)
                | fail)
            have bp_u55 := bp_55.cell0
            have bp_v55 := bp_55.cell1
            have bp_w55 := bp_55.cell2
            have bp_x55 := bp_55.cell3
            have bp_y55 := bp_55.cell4
            have bp_z55 := bp_55.cell5
            have be_u55 := be_55.cell0
            have be_v55 := be_55.cell1
            have be_w55 := be_55.cell2
            have be_x55 := be_55.cell3
            have be_y55 := be_55.cell4
            have be_z55 := be_55.cell5
            have be_a55 := be_55.cell6
            have be_b55 := be_55.cell7
            have be_c55 := be_55.cell8
            have be_d55 := be_55.cell9
            have be_e55 := be_55.cell10
            have be_f55 := be_55.cell11
            go_wp2_with fail
            have m1_56 := m1_55.drew
            have m2_56 := m2_55.drew
            have e0_56 := e0_55.drew
            have e1_56 := e1_55.drew
            have e2_56 := e2_55.drew
            have e3_56 := e3_55.drew
            have bp_56 := bp_55.drew
            have be_56 := be_55.drew
            have F56 := F55.drew
            refine wp_region_held_drew (S := fun w' => w'.cell? ⟨w6.heap.size, 0, none⟩ = some (.bool u6.s) ∧ w'.cell? ⟨w6.heap.size, 1, none⟩ = some (.slice u6.A u6.n u6.c) ∧ w'.cell? ⟨w6.heap.size, 2, none⟩ = some (.slice u6.B u6.m u6.d) ∧ w'.cell? ⟨w6.heap.size, 3, none⟩ = some (.bool v6.s) ∧ w'.cell? ⟨w6.heap.size, 4, none⟩ = some (.slice v6.A v6.n v6.c) ∧ w'.cell? ⟨w6.heap.size, 5, none⟩ = some (.slice v6.B v6.m v6.d) ∧ w'.cell? ⟨g13, 0, none⟩ = some (.bool u9.s) ∧ w'.cell? ⟨g13, 1, none⟩ = some (.slice u9.A u9.n u9.c) ∧ w'.cell? ⟨g13, 2, none⟩ = some (.slice u9.B u9.m u9.d) ∧ w'.cell? ⟨g13, 3, none⟩ = some (.bool u10.s) ∧ w'.cell? ⟨g13, 4, none⟩ = some (.slice u10.A u10.n u10.c) ∧ w'.cell? ⟨g13, 5, none⟩ = some (.slice u10.B u10.m u10.d) ∧ w'.cell? ⟨g13, 6, none⟩ = some (.bool u11.s) ∧ w'.cell? ⟨g13, 7, none⟩ = some (.slice u11.A u11.n u11.c) ∧ w'.cell? ⟨g13, 8, none⟩ = some (.slice u11.B u11.m u11.d) ∧ w'.cell? ⟨g13, 9, none⟩ = some (.bool u12.s) ∧ w'.cell? ⟨g13, 10, none⟩ = some (.slice u12.A u12.n u12.c) ∧ w'.cell? ⟨g13, 11, none⟩ = some (.slice u12.B u12.m u12.d)) (by kernel_rfl) ?_ (fun hHeld => ?_)
            · (try dsimp only); exact ⟨bp_56.cell0, bp_56.cell1, bp_56.cell2, bp_56.cell3, bp_56.cell4, bp_56.cell5, be_56.cell0, be_56.cell1, be_56.cell2, be_56.cell3, be_56.cell4, be_56.cell5, be_56.cell6, be_56.cell7, be_56.cell8, be_56.cell9, be_56.cell10, be_56.cell11⟩
            refine wpAnyH_take (i := 0) (v := ?_) rfl (by kernel_rfl) (by kernel_rfl) (by kernel_rfl) (fun _ _ _ h => h) (Or.inl ⟨by rfl, ?_⟩) (by assumption) ?_
            rotate_left 1
            · (intro w9 hSw; (try dsimp only at hSw); go_simp; try with_reducible rfl)
            try simp only [Act.put, List.getElem_toArray, List.getElem_cons_succ, List.getElem_cons_zero, List.setIfInBounds_toArray, List.set_cons_zero, List.set_cons_succ]
            refine wpAnyH_take (i := 1) (v := ?_) rfl (by kernel_rfl) (by kernel_rfl) (by kernel_rfl) (fun _ _ _ h => h) (Or.inl ⟨by rfl, ?_⟩) (by assumption) ?_
            rotate_left 1
            · (intro w9 hSw; (try dsimp only at hSw); go_simp; try with_reducible rfl)
            try simp only [Act.put, List.getElem_toArray, List.getElem_cons_succ, List.getElem_cons_zero, List.setIfInBounds_toArray, List.set_cons_zero, List.set_cons_succ]
            refine wpAnyH_take (i := 2) (v := undef) rfl (by kernel_rfl) (by kernel_rfl) (by kernel_rfl) (fun _ _ _ h => h) (Or.inr ⟨by rfl, rfl⟩) (by assumption) ?_
            try simp only [Act.put, List.getElem_toArray, List.getElem_cons_succ, List.getElem_cons_zero, List.setIfInBounds_toArray, List.set_cons_zero, List.set_cons_succ]
            refine wpAnyH_take (i := 3) (v := undef) rfl (by kernel_rfl) (by kernel_rfl) (by kernel_rfl) (fun _ _ _ h => h) (Or.inr ⟨by rfl, rfl⟩) (by assumption) ?_
            try simp only [Act.put, List.getElem_toArray, List.getElem_cons_succ, List.getElem_cons_zero, List.setIfInBounds_toArray, List.set_cons_zero, List.set_cons_succ]
            refine wpAnyH_take (i := 4) (v := undef) rfl (by kernel_rfl) (by kernel_rfl) (by kernel_rfl) (fun _ _ _ h => h) (Or.inr ⟨by rfl, rfl⟩) (by assumption) ?_
            try simp only [Act.put, List.getElem_toArray, List.getElem_cons_succ, List.getElem_cons_zero, List.setIfInBounds_toArray, List.set_cons_zero, List.set_cons_succ]
            refine wpAnyH_take (i := 5) (v := undef) rfl (by kernel_rfl) (by kernel_rfl) (by kernel_rfl) (fun _ _ _ h => h) (Or.inr ⟨by rfl, rfl⟩) (by assumption) ?_
            try simp only [Act.put, List.getElem_toArray, List.getElem_cons_succ, List.getElem_cons_zero, List.setIfInBounds_toArray, List.set_cons_zero, List.set_cons_succ]
            refine wpAnyH_take (i := 6) (v := undef) rfl (by kernel_rfl) (by kernel_rfl) (by kernel_rfl) (fun _ _ _ h => h) (Or.inr ⟨by rfl, rfl⟩) (by assumption) ?_
            try simp only [Act.put, List.getElem_toArray, List.getElem_cons_succ, List.getElem_cons_zero, List.setIfInBounds_toArray, List.set_cons_zero, List.set_cons_succ]
            refine wpAnyH_take (i := 7) (v := undef) rfl (by kernel_rfl) (by kernel_rfl) (by kernel_rfl) (fun _ _ _ h => h) (Or.inr ⟨by rfl, rfl⟩) (by assumption) ?_
            try simp only [Act.put, List.getElem_toArray, List.getElem_cons_succ, List.getElem_cons_zero, List.setIfInBounds_toArray, List.set_cons_zero, List.set_cons_succ]
            refine wpAnyH_take (i := 8) (v := ?_) rfl (by kernel_rfl) (by kernel_rfl) (by kernel_rfl) (fun _ _ _ h => h) (Or.inl ⟨by rfl, ?_⟩) (by assumption) ?_
            rotate_left 1
            · (intro w9 hSw; (try dsimp only at hSw); go_simp; try with_reducible rfl)
            try simp only [Act.put, List.getElem_toArray, List.getElem_cons_succ, List.getElem_cons_zero, List.setIfInBounds_toArray, List.set_cons_zero, List.set_cons_succ]
            refine wpAnyH_take (i := 9) (v := ?_) rfl (by kernel_rfl) (by kernel_rfl) (by kernel_rfl) (fun _ _ _ h => h) (Or.inl ⟨by rfl, ?_⟩) (by assumption) ?_
            rotate_left 1
            · (intro w9 hSw; (try dsimp only at hSw); go_simp; try with_reducible rfl)
            try simp only [Act.put, List.getElem_toArray, List.getElem_cons_succ, List.getElem_cons_zero, List.setIfInBounds_toArray, List.set_cons_zero, List.set_cons_succ]
            refine wpAnyH_done (by kernel_rfl) ?_ _
            go_wp2
            go_roundw
            case rel => exact ⟨4, rl, true, by omega, rfl, rfl, rfl, bp_56, be_56, m1_56, m2_56, e0_56, e1_56, e2_56, e3_56, F56, hide ⟨seen_s3 HR.out.1 (.inr ⟨rfl, HRL.out⟩), seen_s3 HR.out.2 (.inl ⟨rfl, rfl⟩)⟩⟩
            case measure => simp only [intOf]; omega
        · rcases hi with _ | _
          · obtain ⟨rl, hrl⟩ : ∃ r, decide (A1 = z3) = r := ⟨_, rfl⟩
            obtain ⟨rh, hrh⟩ : ∃ r, decide (B1 = z3) = r := ⟨_, rfl⟩
            have HRL := hide hrl
            have HRH := hide hrh
            clear hrl hrh
            have bp_u56 := Hp.cell0
            have bp_v56 := Hp.cell1
            have bp_w56 := Hp.cell2
            have bp_x56 := Hp.cell3
            have bp_y56 := Hp.cell4
            have bp_z56 := Hp.cell5
            have be_u56 := He.cell0
            have be_v56 := He.cell1
            have be_w56 := He.cell2
            have be_x56 := He.cell3
            have be_y56 := He.cell4
            have be_z56 := He.cell5
            have be_a56 := He.cell6
            have be_b56 := He.cell7
            have be_c56 := He.cell8
            have be_d56 := He.cell9
            have be_e56 := He.cell10
            have be_f56 := He.cell11
            go_wp2_with fail
            have m1_57 := K1.drew
            have m2_57 := K2.drew
            have e0_57 := E0.drew
            have e1_57 := E1.drew
            have e2_57 := E2.drew
            have e3_57 := E3.drew
            have bp_57 := Hp.drew
            have be_57 := He.drew
            have F57 := FB.drew
            refine wp_region_held_drew (S := fun w' => w'.cell? ⟨w6.heap.size, 0, none⟩ = some (.bool u6.s) ∧ w'.cell? ⟨w6.heap.size, 1, none⟩ = some (.slice u6.A u6.n u6.c) ∧ w'.cell? ⟨w6.heap.size, 2, none⟩ = some (.slice u6.B u6.m u6.d) ∧ w'.cell? ⟨w6.heap.size, 3, none⟩ = some (.bool v6.s) ∧ w'.cell? ⟨w6.heap.size, 4, none⟩ = some (.slice v6.A v6.n v6.c) ∧ w'.cell? ⟨w6.heap.size, 5, none⟩ = some (.slice v6.B v6.m v6.d) ∧ w'.cell? ⟨g13, 0, none⟩ = some (.bool u9.s) ∧ w'.cell? ⟨g13, 1, none⟩ = some (.slice u9.A u9.n u9.c) ∧ w'.cell? ⟨g13, 2, none⟩ = some (.slice u9.B u9.m u9.d) ∧ w'.cell? ⟨g13, 3, none⟩ = some (.bool u10.s) ∧ w'.cell? ⟨g13, 4, none⟩ = some (.slice u10.A u10.n u10.c) ∧ w'.cell? ⟨g13, 5, none⟩ = some (.slice u10.B u10.m u10.d) ∧ w'.cell? ⟨g13, 6, none⟩ = some (.bool u11.s) ∧ w'.cell? ⟨g13, 7, none⟩ = some (.slice u11.A u11.n u11.c) ∧ w'.cell? ⟨g13, 8, none⟩ = some (.slice u11.B u11.m u11.d) ∧ w'.cell? ⟨g13, 9, none⟩ = some (.bool u12.s) ∧ w'.cell? ⟨g13, 10, none⟩ = some (.slice u12.A u12.n u12.c) ∧ w'.cell? ⟨g13, 11, none⟩ = some (.slice u12.B u12.m u12.d)) (by kernel_rfl) ?_ (fun hHeld => ?_)
            · (try dsimp only); exact ⟨bp_57.cell0, bp_57.cell1, bp_57.cell2, bp_57.cell3, bp_57.cell4, bp_57.cell5, be_57.cell0, be_57.cell1, be_57.cell2, be_57.cell3, be_57.cell4, be_57.cell5, be_57.cell6, be_57.cell7, be_57.cell8, be_57.cell9, be_57.cell10, be_57.cell11⟩
            refine wpAnyH_take (i := 0) (v := ?_) rfl (by kernel_rfl) (by kernel_rfl) (by kernel_rfl) (fun _ _ _ h => h) (Or.inl ⟨by rfl, ?_⟩) (by assumption) ?_
            rotate_left 1
            · (intro w9 hSw; (try dsimp only at hSw); go_simp; try with_reducible rfl)
            try simp only [Act.put, List.getElem_toArray, List.getElem_cons_succ, List.getElem_cons_zero, List.setIfInBounds_toArray, List.set_cons_zero, List.set_cons_succ]
            refine wpAnyH_take (i := 1) (v := ?_) rfl (by kernel_rfl) (by kernel_rfl) (by kernel_rfl) (fun _ _ _ h => h) (Or.inl ⟨by rfl, ?_⟩) (by assumption) ?_
            rotate_left 1
            · (intro w9 hSw; (try dsimp only at hSw); go_simp; try with_reducible rfl)
            try simp only [Act.put, List.getElem_toArray, List.getElem_cons_succ, List.getElem_cons_zero, List.setIfInBounds_toArray, List.set_cons_zero, List.set_cons_succ]
            refine wpAnyH_take (i := 2) (v := undef) rfl (by kernel_rfl) (by kernel_rfl) (by kernel_rfl) (fun _ _ _ h => h) (Or.inr ⟨by rfl, rfl⟩) (by assumption) ?_
            try simp only [Act.put, List.getElem_toArray, List.getElem_cons_succ, List.getElem_cons_zero, List.setIfInBounds_toArray, List.set_cons_zero, List.set_cons_succ]
            refine wpAnyH_take (i := 3) (v := undef) rfl (by kernel_rfl) (by kernel_rfl) (by kernel_rfl) (fun _ _ _ h => h) (Or.inr ⟨by rfl, rfl⟩) (by assumption) ?_
            try simp only [Act.put, List.getElem_toArray, List.getElem_cons_succ, List.getElem_cons_zero, List.setIfInBounds_toArray, List.set_cons_zero, List.set_cons_succ]
            refine wpAnyH_take (i := 4) (v := undef) rfl (by kernel_rfl) (by kernel_rfl) (by kernel_rfl) (fun _ _ _ h => h) (Or.inr ⟨by rfl, rfl⟩) (by assumption) ?_
            try simp only [Act.put, List.getElem_toArray, List.getElem_cons_succ, List.getElem_cons_zero, List.setIfInBounds_toArray, List.set_cons_zero, List.set_cons_succ]
            refine wpAnyH_take (i := 5) (v := undef) rfl (by kernel_rfl) (by kernel_rfl) (by kernel_rfl) (fun _ _ _ h => h) (Or.inr ⟨by rfl, rfl⟩) (by assumption) ?_
            try simp only [Act.put, List.getElem_toArray, List.getElem_cons_succ, List.getElem_cons_zero, List.setIfInBounds_toArray, List.set_cons_zero, List.set_cons_succ]
            refine wpAnyH_take (i := 6) (v := undef) rfl (by kernel_rfl) (by kernel_rfl) (by kernel_rfl) (fun _ _ _ h => h) (Or.inr ⟨by rfl, rfl⟩) (by assumption) ?_
            try simp only [Act.put, List.getElem_toArray, List.getElem_cons_succ, List.getElem_cons_zero, List.setIfInBounds_toArray, List.set_cons_zero, List.set_cons_succ]
            refine wpAnyH_take (i := 7) (v := undef) rfl (by kernel_rfl) (by kernel_rfl) (by kernel_rfl) (fun _ _ _ h => h) (Or.inr ⟨by rfl, rfl⟩) (by assumption) ?_
            try simp only [Act.put, List.getElem_toArray, List.getElem_cons_succ, List.getElem_cons_zero, List.setIfInBounds_toArray, List.set_cons_zero, List.set_cons_succ]
            refine wpAnyH_take (i := 8) (v := ?_) rfl (by kernel_rfl) (by kernel_rfl) (by kernel_rfl) (fun _ _ _ h => h) (Or.inl ⟨by rfl, ?_⟩) (by assumption) ?_
            rotate_left 1
            · (intro w9 hSw; (try dsimp only at hSw); go_simp; try with_reducible rfl)
            try simp only [Act.put, List.getElem_toArray, List.getElem_cons_succ, List.getElem_cons_zero, List.setIfInBounds_toArray, List.set_cons_zero, List.set_cons_succ]
            refine wpAnyH_take (i := 9) (v := ?_) rfl (by kernel_rfl) (by kernel_rfl) (by kernel_rfl) (fun _ _ _ h => h) (Or.inl ⟨by rfl, ?_⟩) (by assumption) ?_
            rotate_left 1
            · (intro w9 hSw; (try dsimp only at hSw); go_simp; try with_reducible rfl)
            try simp only [Act.put, List.getElem_toArray, List.getElem_cons_succ, List.getElem_cons_zero, List.setIfInBounds_toArray, List.set_cons_zero, List.set_cons_succ]
            refine wpAnyH_done (by kernel_rfl) ?_ _
            go_wp2_with fail
            have m1_58 := m1_57.drew
            have m2_58 := m2_57.drew
            have e0_58 := e0_57.drew
            have e1_58 := e1_57.drew
            have e2_58 := e2_57.drew
            have e3_58 := e3_57.drew
            have bp_58 := bp_57.drew
            have be_58 := be_57.drew
            have F58 := F57.drew
            go_region_held3 (fun w' => w'.cell? ⟨w6.heap.size, 0, none⟩ = some (.bool u6.s) ∧ w'.cell? ⟨w6.heap.size, 1, none⟩ = some (.slice u6.A u6.n u6.c) ∧ w'.cell? ⟨w6.heap.size, 2, none⟩ = some (.slice u6.B u6.m u6.d) ∧ w'.cell? ⟨w6.heap.size, 3, none⟩ = some (.bool v6.s) ∧ w'.cell? ⟨w6.heap.size, 4, none⟩ = some (.slice v6.A v6.n v6.c) ∧ w'.cell? ⟨w6.heap.size, 5, none⟩ = some (.slice v6.B v6.m v6.d) ∧ w'.cell? ⟨g13, 0, none⟩ = some (.bool u9.s) ∧ w'.cell? ⟨g13, 1, none⟩ = some (.slice u9.A u9.n u9.c) ∧ w'.cell? ⟨g13, 2, none⟩ = some (.slice u9.B u9.m u9.d) ∧ w'.cell? ⟨g13, 3, none⟩ = some (.bool u10.s) ∧ w'.cell? ⟨g13, 4, none⟩ = some (.slice u10.A u10.n u10.c) ∧ w'.cell? ⟨g13, 5, none⟩ = some (.slice u10.B u10.m u10.d) ∧ w'.cell? ⟨g13, 6, none⟩ = some (.bool u11.s) ∧ w'.cell? ⟨g13, 7, none⟩ = some (.slice u11.A u11.n u11.c) ∧ w'.cell? ⟨g13, 8, none⟩ = some (.slice u11.B u11.m u11.d) ∧ w'.cell? ⟨g13, 9, none⟩ = some (.bool u12.s) ∧ w'.cell? ⟨g13, 10, none⟩ = some (.slice u12.A u12.n u12.c) ∧ w'.cell? ⟨g13, 11, none⟩ = some (.slice u12.B u12.m u12.d))
              (first
                | with_reducible exact ⟨bp_59.cell0, bp_59.cell1, bp_59.cell2, bp_59.cell3, bp_59.cell4, bp_59.cell5, be_59.cell0, be_59.cell1, be_59.cell2, be_59.cell3, be_59.cell4, be_59.cell5, be_59.cell6, be_59.cell7, be_59.cell8, be_59.cell9, be_59.cell10, be_59.cell11⟩
                | with_reducible exact ⟨bp_58.cell0, bp_58.cell1, bp_58.cell2, bp_58.cell3, bp_58.cell4, bp_58.cell5, be_58.cell0, be_58.cell1, be_58.cell2, be_58.cell3, be_58.cell4, be_58.cell5, be_58.cell6, be_58.cell7, be_58.cell8, be_58.cell9, be_58.cell10, be_58.cell11⟩
                | fail)
              (first
                | (go_at_call 34; (with_reducible refine (sameb_u _ _ B1 z3 rh _ HRH.out m2_58 e3_58 ((m2_58.len sB1).mono k4) ((e3_58.len t4).mono k4)).mono ?_); rintro e w59 ⟨rfl, b59⟩; have m1_59 := m1_58.below b59; have m2_59 := m2_58.below b59; have e0_59 := e0_58.below b59; have e1_59 := e1_58.below b59; have e2_59 := e2_58.below b59; have e3_59 := e3_58.below b59; have bp_59 := bp_58.below b59 bp_58.lt; have be_59 := be_58.below b59 be_58.lt; have F59 := below_then F58 (Nat.le_refl _) b59)
                | fail)
            have bp_u59 := bp_59.cell0
            have bp_v59 := bp_59.cell1
            have bp_w59 := bp_59.cell2
            have bp_x59 := bp_59.cell3
            have bp_y59 := bp_59.cell4
            have bp_z59 := bp_59.cell5
            have be_u59 := be_59.cell0
            have be_v59 := be_59.cell1
            have be_w59 := be_59.cell2
            have be_x59 := be_59.cell3
            have be_y59 := be_59.cell4
            have be_z59 := be_59.cell5
            have be_a59 := be_59.cell6
            have be_b59 := be_59.cell7
            have be_c59 := be_59.cell8
            have be_d59 := be_59.cell9
            have be_e59 := be_59.cell10
            have be_f59 := be_59.cell11
            go_wp2
            go_roundw
            case rel => exact ⟨4, true, rh, by omega, rfl, rfl, rfl, bp_59, be_59, m1_59, m2_59, e0_59, e1_59, e2_59, e3_59, F59, hide ⟨seen_s3 HR.out.1 (.inl ⟨rfl, rfl⟩), seen_s3 HR.out.2 (.inr ⟨rfl, HRH.out⟩)⟩⟩
            case measure => simp only [intOf]; omega
          · obtain ⟨rl, hrl⟩ : ∃ r, decide (A1 = z3) = r := ⟨_, rfl⟩
            obtain ⟨rh, hrh⟩ : ∃ r, decide (B1 = z3) = r := ⟨_, rfl⟩
            have HRL := hide hrl
            have HRH := hide hrh
            clear hrl hrh
            have bp_u59 := Hp.cell0
            have bp_v59 := Hp.cell1
            have bp_w59 := Hp.cell2
            have bp_x59 := Hp.cell3
            have bp_y59 := Hp.cell4
            have bp_z59 := Hp.cell5
            have be_u59 := He.cell0
            have be_v59 := He.cell1
            have be_w59 := He.cell2
            have be_x59 := He.cell3
            have be_y59 := He.cell4
            have be_z59 := He.cell5
            have be_a59 := He.cell6
            have be_b59 := He.cell7
            have be_c59 := He.cell8
            have be_d59 := He.cell9
            have be_e59 := He.cell10
            have be_f59 := He.cell11
            go_wp2_with fail
            have m1_60 := K1.drew
            have m2_60 := K2.drew
            have e0_60 := E0.drew
            have e1_60 := E1.drew
            have e2_60 := E2.drew
            have e3_60 := E3.drew
            have bp_60 := Hp.drew
            have be_60 := He.drew
            have F60 := FB.drew
            refine wp_region_held_drew (S := fun w' => w'.cell? ⟨w6.heap.size, 0, none⟩ = some (.bool u6.s) ∧ w'.cell? ⟨w6.heap.size, 1, none⟩ = some (.slice u6.A u6.n u6.c) ∧ w'.cell? ⟨w6.heap.size, 2, none⟩ = some (.slice u6.B u6.m u6.d) ∧ w'.cell? ⟨w6.heap.size, 3, none⟩ = some (.bool v6.s) ∧ w'.cell? ⟨w6.heap.size, 4, none⟩ = some (.slice v6.A v6.n v6.c) ∧ w'.cell? ⟨w6.heap.size, 5, none⟩ = some (.slice v6.B v6.m v6.d) ∧ w'.cell? ⟨g13, 0, none⟩ = some (.bool u9.s) ∧ w'.cell? ⟨g13, 1, none⟩ = some (.slice u9.A u9.n u9.c) ∧ w'.cell? ⟨g13, 2, none⟩ = some (.slice u9.B u9.m u9.d) ∧ w'.cell? ⟨g13, 3, none⟩ = some (.bool u10.s) ∧ w'.cell? ⟨g13, 4, none⟩ = some (.slice u10.A u10.n u10.c) ∧ w'.cell? ⟨g13, 5, none⟩ = some (.slice u10.B u10.m u10.d) ∧ w'.cell? ⟨g13, 6, none⟩ = some (.bool u11.s) ∧ w'.cell? ⟨g13, 7, none⟩ = some (.slice u11.A u11.n u11.c) ∧ w'.cell? ⟨g13, 8, none⟩ = some (.slice u11.B u11.m u11.d) ∧ w'.cell? ⟨g13, 9, none⟩ = some (.bool u12.s) ∧ w'.cell? ⟨g13, 10, none⟩ = some (.slice u12.A u12.n u12.c) ∧ w'.cell? ⟨g13, 11, none⟩ = some (.slice u12.B u12.m u12.d)) (by kernel_rfl) ?_ (fun hHeld => ?_)
            · (try dsimp only); exact ⟨bp_60.cell0, bp_60.cell1, bp_60.cell2, bp_60.cell3, bp_60.cell4, bp_60.cell5, be_60.cell0, be_60.cell1, be_60.cell2, be_60.cell3, be_60.cell4, be_60.cell5, be_60.cell6, be_60.cell7, be_60.cell8, be_60.cell9, be_60.cell10, be_60.cell11⟩
            refine wpAnyH_take (i := 0) (v := ?_) rfl (by kernel_rfl) (by kernel_rfl) (by kernel_rfl) (fun _ _ _ h => h) (Or.inl ⟨by rfl, ?_⟩) (by assumption) ?_
            rotate_left 1
            · (intro w9 hSw; (try dsimp only at hSw); go_simp; try with_reducible rfl)
            try simp only [Act.put, List.getElem_toArray, List.getElem_cons_succ, List.getElem_cons_zero, List.setIfInBounds_toArray, List.set_cons_zero, List.set_cons_succ]
            refine wpAnyH_take (i := 1) (v := ?_) rfl (by kernel_rfl) (by kernel_rfl) (by kernel_rfl) (fun _ _ _ h => h) (Or.inl ⟨by rfl, ?_⟩) (by assumption) ?_
            rotate_left 1
            · (intro w9 hSw; (try dsimp only at hSw); go_simp; try with_reducible rfl)
            try simp only [Act.put, List.getElem_toArray, List.getElem_cons_succ, List.getElem_cons_zero, List.setIfInBounds_toArray, List.set_cons_zero, List.set_cons_succ]
            refine wpAnyH_take (i := 2) (v := undef) rfl (by kernel_rfl) (by kernel_rfl) (by kernel_rfl) (fun _ _ _ h => h) (Or.inr ⟨by rfl, rfl⟩) (by assumption) ?_
            try simp only [Act.put, List.getElem_toArray, List.getElem_cons_succ, List.getElem_cons_zero, List.setIfInBounds_toArray, List.set_cons_zero, List.set_cons_succ]
            refine wpAnyH_take (i := 3) (v := undef) rfl (by kernel_rfl) (by kernel_rfl) (by kernel_rfl) (fun _ _ _ h => h) (Or.inr ⟨by rfl, rfl⟩) (by assumption) ?_
            try simp only [Act.put, List.getElem_toArray, List.getElem_cons_succ, List.getElem_cons_zero, List.setIfInBounds_toArray, List.set_cons_zero, List.set_cons_succ]
            refine wpAnyH_take (i := 4) (v := undef) rfl (by kernel_rfl) (by kernel_rfl) (by kernel_rfl) (fun _ _ _ h => h) (Or.inr ⟨by rfl, rfl⟩) (by assumption) ?_
            try simp only [Act.put, List.getElem_toArray, List.getElem_cons_succ, List.getElem_cons_zero, List.setIfInBounds_toArray, List.set_cons_zero, List.set_cons_succ]
            refine wpAnyH_take (i := 5) (v := undef) rfl (by kernel_rfl) (by kernel_rfl) (by kernel_rfl) (fun _ _ _ h => h) (Or.inr ⟨by rfl, rfl⟩) (by assumption) ?_
            try simp only [Act.put, List.getElem_toArray, List.getElem_cons_succ, List.getElem_cons_zero, List.setIfInBounds_toArray, List.set_cons_zero, List.set_cons_succ]
            refine wpAnyH_take (i := 6) (v := undef) rfl (by kernel_rfl) (by kernel_rfl) (by kernel_rfl) (fun _ _ _ h => h) (Or.inr ⟨by rfl, rfl⟩) (by assumption) ?_
            try simp only [Act.put, List.getElem_toArray, List.getElem_cons_succ, List.getElem_cons_zero, List.setIfInBounds_toArray, List.set_cons_zero, List.set_cons_succ]
            refine wpAnyH_take (i := 7) (v := undef) rfl (by kernel_rfl) (by kernel_rfl) (by kernel_rfl) (fun _ _ _ h => h) (Or.inr ⟨by rfl, rfl⟩) (by assumption) ?_
            try simp only [Act.put, List.getElem_toArray, List.getElem_cons_succ, List.getElem_cons_zero, List.setIfInBounds_toArray, List.set_cons_zero, List.set_cons_succ]
            refine wpAnyH_take (i := 8) (v := ?_) rfl (by kernel_rfl) (by kernel_rfl) (by kernel_rfl) (fun _ _ _ h => h) (Or.inl ⟨by rfl, ?_⟩) (by assumption) ?_
            rotate_left 1
            · (intro w9 hSw; (try dsimp only at hSw); go_simp; try with_reducible rfl)
            try simp only [Act.put, List.getElem_toArray, List.getElem_cons_succ, List.getElem_cons_zero, List.setIfInBounds_toArray, List.set_cons_zero, List.set_cons_succ]
            refine wpAnyH_take (i := 9) (v := ?_) rfl (by kernel_rfl) (by kernel_rfl) (by kernel_rfl) (fun _ _ _ h => h) (Or.inl ⟨by rfl, ?_⟩) (by assumption) ?_
            rotate_left 1
            · (intro w9 hSw; (try dsimp only at hSw); go_simp; try with_reducible rfl)
            try simp only [Act.put, List.getElem_toArray, List.getElem_cons_succ, List.getElem_cons_zero, List.setIfInBounds_toArray, List.set_cons_zero, List.set_cons_succ]
            refine wpAnyH_done (by kernel_rfl) ?_ _
            go_wp2_with fail
            have m1_61 := m1_60.drew
            have m2_61 := m2_60.drew
            have e0_61 := e0_60.drew
            have e1_61 := e1_60.drew
            have e2_61 := e2_60.drew
            have e3_61 := e3_60.drew
            have bp_61 := bp_60.drew
            have be_61 := be_60.drew
            have F61 := F60.drew
            refine wp_region_held_drew (S := fun w' => w'.cell? ⟨w6.heap.size, 0, none⟩ = some (.bool u6.s) ∧ w'.cell? ⟨w6.heap.size, 1, none⟩ = some (.slice u6.A u6.n u6.c) ∧ w'.cell? ⟨w6.heap.size, 2, none⟩ = some (.slice u6.B u6.m u6.d) ∧ w'.cell? ⟨w6.heap.size, 3, none⟩ = some (.bool v6.s) ∧ w'.cell? ⟨w6.heap.size, 4, none⟩ = some (.slice v6.A v6.n v6.c) ∧ w'.cell? ⟨w6.heap.size, 5, none⟩ = some (.slice v6.B v6.m v6.d) ∧ w'.cell? ⟨g13, 0, none⟩ = some (.bool u9.s) ∧ w'.cell? ⟨g13, 1, none⟩ = some (.slice u9.A u9.n u9.c) ∧ w'.cell? ⟨g13, 2, none⟩ = some (.slice u9.B u9.m u9.d) ∧ w'.cell? ⟨g13, 3, none⟩ = some (.bool u10.s) ∧ w'.cell? ⟨g13, 4, none⟩ = some (.slice u10.A u10.n u10.c) ∧ w'.cell? ⟨g13, 5, none⟩ = some (.slice u10.B u10.m u10.d) ∧ w'.cell? ⟨g13, 6, none⟩ = some (.bool u11.s) ∧ w'.cell? ⟨g13, 7, none⟩ = some (.slice u11.A u11.n u11.c) ∧ w'.cell? ⟨g13, 8, none⟩ = some (.slice u11.B u11.m u11.d) ∧ w'.cell? ⟨g13, 9, none⟩ = some (.bool u12.s) ∧ w'.cell? ⟨g13, 10, none⟩ = some (.slice u12.A u12.n u12.c) ∧ w'.cell? ⟨g13, 11, none⟩ = some (.slice u12.B u12.m u12.d)) (by kernel_rfl) ?_ (fun hHeld => ?_)
            · (try dsimp only); exact ⟨bp_61.cell0, bp_61.cell1, bp_61.cell2, bp_61.cell3, bp_61.cell4, bp_61.cell5, be_61.cell0, be_61.cell1, be_61.cell2, be_61.cell3, be_61.cell4, be_61.cell5, be_61.cell6, be_61.cell7, be_61.cell8, be_61.cell9, be_61.cell10, be_61.cell11⟩
            refine wpAnyH_take (i := 0) (v := ?_) rfl (by kernel_rfl) (by kernel_rfl) (by kernel_rfl) (fun _ _ _ h => h) (Or.inl ⟨by rfl, ?_⟩) (by assumption) ?_
            rotate_left 1
            · (intro w9 hSw; (try dsimp only at hSw); go_simp; try with_reducible rfl)
            try simp only [Act.put, List.getElem_toArray, List.getElem_cons_succ, List.getElem_cons_zero, List.setIfInBounds_toArray, List.set_cons_zero, List.set_cons_succ]
            refine wpAnyH_take (i := 1) (v := ?_) rfl (by kernel_rfl) (by kernel_rfl) (by kernel_rfl) (fun _ _ _ h => h) (Or.inl ⟨by rfl, ?_⟩) (by assumption) ?_
            rotate_left 1
            · (intro w9 hSw; (try dsimp only at hSw); go_simp; try with_reducible rfl)
            try simp only [Act.put, List.getElem_toArray, List.getElem_cons_succ, List.getElem_cons_zero, List.setIfInBounds_toArray, List.set_cons_zero, List.set_cons_succ]
            refine wpAnyH_take (i := 2) (v := undef) rfl (by kernel_rfl) (by kernel_rfl) (by kernel_rfl) (fun _ _ _ h => h) (Or.inr ⟨by rfl, rfl⟩) (by assumption) ?_
            try simp only [Act.put, List.getElem_toArray, List.getElem_cons_succ, List.getElem_cons_zero, List.setIfInBounds_toArray, List.set_cons_zero, List.set_cons_succ]
            refine wpAnyH_take (i := 3) (v := undef) rfl (by kernel_rfl) (by kernel_rfl) (by kernel_rfl) (fun _ _ _ h => h) (Or.inr ⟨by rfl, rfl⟩) (by assumption) ?_
            try simp only [Act.put, List.getElem_toArray, List.getElem_cons_succ, List.getElem_cons_zero, List.setIfInBounds_toArray, List.set_cons_zero, List.set_cons_succ]
            refine wpAnyH_take (i := 4) (v := undef) rfl (by kernel_rfl) (by kernel_rfl) (by kernel_rfl) (fun _ _ _ h => h) (Or.inr ⟨by rfl, rfl⟩) (by assumption) ?_
            try simp only [Act.put, List.getElem_toArray, List.getElem_cons_succ, List.getElem_cons_zero, List.setIfInBounds_toArray, List.set_cons_zero, List.set_cons_succ]
            refine wpAnyH_take (i := 5) (v := undef) rfl (by kernel_rfl) (by kernel_rfl) (by kernel_rfl) (fun _ _ _ h => h) (Or.inr ⟨by rfl, rfl⟩) (by assumption) ?_
            try simp only [Act.put, List.getElem_toArray, List.getElem_cons_succ, List.getElem_cons_zero, List.setIfInBounds_toArray, List.set_cons_zero, List.set_cons_succ]
            refine wpAnyH_take (i := 6) (v := undef) rfl (by kernel_rfl) (by kernel_rfl) (by kernel_rfl) (fun _ _ _ h => h) (Or.inr ⟨by rfl, rfl⟩) (by assumption) ?_
            try simp only [Act.put, List.getElem_toArray, List.getElem_cons_succ, List.getElem_cons_zero, List.setIfInBounds_toArray, List.set_cons_zero, List.set_cons_succ]
            refine wpAnyH_take (i := 7) (v := undef) rfl (by kernel_rfl) (by kernel_rfl) (by kernel_rfl) (fun _ _ _ h => h) (Or.inr ⟨by rfl, rfl⟩) (by assumption) ?_
            try simp only [Act.put, List.getElem_toArray, List.getElem_cons_succ, List.getElem_cons_zero, List.setIfInBounds_toArray, List.set_cons_zero, List.set_cons_succ]
            refine wpAnyH_take (i := 8) (v := ?_) rfl (by kernel_rfl) (by kernel_rfl) (by kernel_rfl) (fun _ _ _ h => h) (Or.inl ⟨by rfl, ?_⟩) (by assumption) ?_
            rotate_left 1
            · (intro w9 hSw; (try dsimp only at hSw); go_simp; try with_reducible rfl)
            try simp only [Act.put, List.getElem_toArray, List.getElem_cons_succ, List.getElem_cons_zero, List.setIfInBounds_toArray, List.set_cons_zero, List.set_cons_succ]
            refine wpAnyH_take (i := 9) (v := ?_) rfl (by kernel_rfl) (by kernel_rfl) (by kernel_rfl) (fun _ _ _ h => h) (Or.inl ⟨by rfl, ?_⟩) (by assumption) ?_
            rotate_left 1
            · (intro w9 hSw; (try dsimp only at hSw); go_simp; try with_reducible rfl)
            try simp only [Act.put, List.getElem_toArray, List.getElem_cons_succ, List.getElem_cons_zero, List.setIfInBounds_toArray, List.set_cons_zero, List.set_cons_succ]
            refine wpAnyH_done (by kernel_rfl) ?_ _
            go_wp2
            go_roundw
            case rel => exact ⟨4, true, true, by omega, rfl, rfl, rfl, bp_61, be_61, m1_61, m2_61, e0_61, e1_61, e2_61, e3_61, F61, hide ⟨seen_s3 HR.out.1 (.inl ⟨rfl, rfl⟩), seen_s3 HR.out.2 (.inl ⟨rfl, rfl⟩)⟩⟩
            case measure => simp only [intOf]; omega
      · obtain rfl : lo = true := HR.out.1.trans HS.out.1
        obtain rfl : hi = true := HR.out.2.trans HS.out.2
        go_wp2
        go_ret
        exact ⟨rfl, FB⟩
theorem law_itight (u v x y : Rv) (xs ys xs' ys' zs ws zs' ws' : List Nat) (w : World) (hu : Rx w u xs ys) (hv : Rx w v xs' ys') (hx : Rx w x zs ws) (hy : Rx w y zs' ws') : Calls Try.prog 6 #[.agg #[.bool u.s, .slice u.A u.n u.c, .slice u.B u.m u.d, .bool v.s, .slice v.A v.n v.c, .slice v.B v.m v.d], .agg #[.bool x.s, .slice x.A x.n x.c, .slice x.B x.m x.d, .bool y.s, .slice y.A y.n y.c, .slice y.B y.m y.d]] w (fun e w' => e = .returned (.bool true) ∧ Below w.heap.size w w') := by
  by_cases ha : (Lu 2 u ∧ Lu 2 v ∧ (isC u.s xs ys && isC v.s xs' ys' && decide (rv u.s xs ys ≤ rv v.s xs' ys')) = true)
  · by_cases hb : (Lu 2 x ∧ Lu 2 y ∧ (isC x.s zs ws && isC y.s zs' ws' && decide (rv x.s zs ws ≤ rv y.s zs' ws')) = true)
    · exact ti_yes u v x y xs ys xs' ys' zs ws zs' ws' w hu hv hx hy ha hb
    · exact ti_n2 u v x y xs ys xs' ys' zs ws zs' ws' w hu hv hx hy ha hb
  · exact ti_n1 u v x y xs ys xs' ys' zs ws zs' ws' w hu hv hx hy ha
end Go.Proofs.Ytnddhohjfjlaiaa
