/-
  The walk of IntervalMake.
-/
import Derived.Test.YtnddhohjfjlaiaaU1
namespace Go.Proofs.Ytnddhohjfjlaiaa
open Go.RowKit
set_option linter.unusedVariables false
set_option linter.unusedSimpArgs false

theorem mk_n1 (u v x : Rv) (xs ys xs' ys' zs ws : List Nat) (w : World) (hu : Rx w u xs ys) (hv : Rx w v xs' ys') (hx : Rx w x zs ws) (h1 : ¬ Lu 2 u) : Calls Try.prog 3 #[.agg #[.bool u.s, .slice u.A u.n u.c, .slice u.B u.m u.d], .agg #[.bool v.s, .slice v.A v.n v.c, .slice v.B v.m v.d], .agg #[.bool x.s, .slice x.A x.n x.c, .slice x.B x.m x.d]] w (fun e w' => e = .returned (.bool true) ∧ Below w.heap.size w w') := by
  have HN := hide h1
  clear h1 hu hv hx
  have ba_1 : Su ((w).alloc (EU u)) (w.heap.size) u := by have h_ := Su.new (w) u; exact h_
  have F1 := (Below.refl w.heap.size w).alloc (Nat.le_refl _) (EU u)
  have ba_2 := ba_1.alloc (EU v)
  have bb_2 : Su (((w).alloc (EU u)).alloc (EU v)) (w.heap.size + 1) v := by have h_ := Su.new ((w).alloc (EU u)) v; simp only [World.size_alloc] at h_; exact h_
  have F2 := F1.alloc F1.size (EU v)
  have ba_3 := ba_2.alloc (EU x)
  have bb_3 := bb_2.alloc (EU x)
  have bc_3 : Su ((((w).alloc (EU u)).alloc (EU v)).alloc (EU x)) (w.heap.size + 2) x := by have h_ := Su.new (((w).alloc (EU u)).alloc (EU v)) x; simp only [World.size_alloc] at h_; exact h_
  have F3 := F2.alloc F2.size (EU x)
  go_enter Try.func3, Try.ntmps3
  have ba_u3 := ba_3.cell0
  have ba_v3 := ba_3.cell1
  have ba_w3 := ba_3.cell2
  have bb_u3 := bb_3.cell0
  have bb_v3 := bb_3.cell1
  have bb_w3 := bb_3.cell2
  have bc_u3 := bc_3.cell0
  have bc_v3 := bc_3.cell1
  have bc_w3 := bc_3.cell2
  go_wp2_with fail
  refine (awake6 _).mono ?_
  rintro e w4 ⟨rfl, b4⟩
  have ba_4 := ba_3.below b4 ba_3.lt
  have bb_4 := bb_3.below b4 bb_3.lt
  have bc_4 := bc_3.below b4 bc_3.lt
  have F4 := below_then F3 (Nat.le_refl _) b4
  have ba_u4 := ba_4.cell0
  have ba_v4 := ba_4.cell1
  have ba_w4 := ba_4.cell2
  have bb_u4 := bb_4.cell0
  have bb_v4 := bb_4.cell1
  have bb_w4 := bb_4.cell2
  have bc_u4 := bc_4.cell0
  have bc_v4 := bc_4.cell1
  have bc_w4 := bc_4.cell2
  go_wp2_with fail
  refine (short_no _ _ HN.out).mono ?_
  rintro e w5 ⟨rfl, b5⟩
  have ba_5 := ba_4.below b5 ba_4.lt
  have bb_5 := bb_4.below b5 bb_4.lt
  have bc_5 := bc_4.below b5 bc_4.lt
  have F5 := below_then F4 (Nat.le_refl _) b5
  have ba_u5 := ba_5.cell0
  have ba_v5 := ba_5.cell1
  have ba_w5 := ba_5.cell2
  have bb_u5 := bb_5.cell0
  have bb_v5 := bb_5.cell1
  have bb_w5 := bb_5.cell2
  have bc_u5 := bc_5.cell0
  have bc_v5 := bc_5.cell1
  have bc_w5 := bc_5.cell2
  go_wp2
  go_ret
  exact ⟨rfl, F5⟩
theorem mk_n2 (u v x : Rv) (xs ys xs' ys' zs ws : List Nat) (w : World) (hu : Rx w u xs ys) (hv : Rx w v xs' ys') (hx : Rx w x zs ws) (h1 : Lu 2 u) (h2 : ¬ Lu 2 v) : Calls Try.prog 3 #[.agg #[.bool u.s, .slice u.A u.n u.c, .slice u.B u.m u.d], .agg #[.bool v.s, .slice v.A v.n v.c, .slice v.B v.m v.d], .agg #[.bool x.s, .slice x.A x.n x.c, .slice x.B x.m x.d]] w (fun e w' => e = .returned (.bool true) ∧ Below w.heap.size w w') := by
  have HN := hide h2
  clear h2 hu hv hx
  have ba_1 : Su ((w).alloc (EU u)) (w.heap.size) u := by have h_ := Su.new (w) u; exact h_
  have F1 := (Below.refl w.heap.size w).alloc (Nat.le_refl _) (EU u)
  have ba_2 := ba_1.alloc (EU v)
  have bb_2 : Su (((w).alloc (EU u)).alloc (EU v)) (w.heap.size + 1) v := by have h_ := Su.new ((w).alloc (EU u)) v; simp only [World.size_alloc] at h_; exact h_
  have F2 := F1.alloc F1.size (EU v)
  have ba_3 := ba_2.alloc (EU x)
  have bb_3 := bb_2.alloc (EU x)
  have bc_3 : Su ((((w).alloc (EU u)).alloc (EU v)).alloc (EU x)) (w.heap.size + 2) x := by have h_ := Su.new (((w).alloc (EU u)).alloc (EU v)) x; simp only [World.size_alloc] at h_; exact h_
  have F3 := F2.alloc F2.size (EU x)
  go_enter Try.func3, Try.ntmps3
  have ba_u3 := ba_3.cell0
  have ba_v3 := ba_3.cell1
  have ba_w3 := ba_3.cell2
  have bb_u3 := bb_3.cell0
  have bb_v3 := bb_3.cell1
  have bb_w3 := bb_3.cell2
  have bc_u3 := bc_3.cell0
  have bc_v3 := bc_3.cell1
  have bc_w3 := bc_3.cell2
  go_wp2_with fail
  refine (awake6 _).mono ?_
  rintro e w4 ⟨rfl, b4⟩
  have ba_4 := ba_3.below b4 ba_3.lt
  have bb_4 := bb_3.below b4 bb_3.lt
  have bc_4 := bc_3.below b4 bc_3.lt
  have F4 := below_then F3 (Nat.le_refl _) b4
  have ba_u4 := ba_4.cell0
  have ba_v4 := ba_4.cell1
  have ba_w4 := ba_4.cell2
  have bb_u4 := bb_4.cell0
  have bb_v4 := bb_4.cell1
  have bb_w4 := bb_4.cell2
  have bc_u4 := bc_4.cell0
  have bc_v4 := bc_4.cell1
  have bc_w4 := bc_4.cell2
  go_wp2_with fail
  refine (short_yes _ _ h1).mono ?_
  rintro e w5 ⟨rfl, b5⟩
  have ba_5 := ba_4.below b5 ba_4.lt
  have bb_5 := bb_4.below b5 bb_4.lt
  have bc_5 := bc_4.below b5 bc_4.lt
  have F5 := below_then F4 (Nat.le_refl _) b5
  have ba_u5 := ba_5.cell0
  have ba_v5 := ba_5.cell1
  have ba_w5 := ba_5.cell2
  have bb_u5 := bb_5.cell0
  have bb_v5 := bb_5.cell1
  have bb_w5 := bb_5.cell2
  have bc_u5 := bc_5.cell0
  have bc_v5 := bc_5.cell1
  have bc_w5 := bc_5.cell2
  go_wp2_with fail
  refine (short_no _ _ HN.out).mono ?_
  rintro e w6 ⟨rfl, b6⟩
  have ba_6 := ba_5.below b6 ba_5.lt
  have bb_6 := bb_5.below b6 bb_5.lt
  have bc_6 := bc_5.below b6 bc_5.lt
  have F6 := below_then F5 (Nat.le_refl _) b6
  have ba_u6 := ba_6.cell0
  have ba_v6 := ba_6.cell1
  have ba_w6 := ba_6.cell2
  have bb_u6 := bb_6.cell0
  have bb_v6 := bb_6.cell1
  have bb_w6 := bb_6.cell2
  have bc_u6 := bc_6.cell0
  have bc_v6 := bc_6.cell1
  have bc_w6 := bc_6.cell2
  go_wp2
  go_ret
  exact ⟨rfl, F6⟩
theorem mk_n3 (u v x : Rv) (xs ys xs' ys' zs ws : List Nat) (w : World) (hu : Rx w u xs ys) (hv : Rx w v xs' ys') (hx : Rx w x zs ws) (h1 : Lu 2 u) (h2 : Lu 2 v) (h3 : ¬ Lu 2 x) : Calls Try.prog 3 #[.agg #[.bool u.s, .slice u.A u.n u.c, .slice u.B u.m u.d], .agg #[.bool v.s, .slice v.A v.n v.c, .slice v.B v.m v.d], .agg #[.bool x.s, .slice x.A x.n x.c, .slice x.B x.m x.d]] w (fun e w' => e = .returned (.bool true) ∧ Below w.heap.size w w') := by
  have HN := hide h3
  clear h3 hu hv hx
  have ba_1 : Su ((w).alloc (EU u)) (w.heap.size) u := by have h_ := Su.new (w) u; exact h_
  have F1 := (Below.refl w.heap.size w).alloc (Nat.le_refl _) (EU u)
  have ba_2 := ba_1.alloc (EU v)
  have bb_2 : Su (((w).alloc (EU u)).alloc (EU v)) (w.heap.size + 1) v := by have h_ := Su.new ((w).alloc (EU u)) v; simp only [World.size_alloc] at h_; exact h_
  have F2 := F1.alloc F1.size (EU v)
  have ba_3 := ba_2.alloc (EU x)
  have bb_3 := bb_2.alloc (EU x)
  have bc_3 : Su ((((w).alloc (EU u)).alloc (EU v)).alloc (EU x)) (w.heap.size + 2) x := by have h_ := Su.new (((w).alloc (EU u)).alloc (EU v)) x; simp only [World.size_alloc] at h_; exact h_
  have F3 := F2.alloc F2.size (EU x)
  go_enter Try.func3, Try.ntmps3
  have ba_u3 := ba_3.cell0
  have ba_v3 := ba_3.cell1
  have ba_w3 := ba_3.cell2
  have bb_u3 := bb_3.cell0
  have bb_v3 := bb_3.cell1
  have bb_w3 := bb_3.cell2
  have bc_u3 := bc_3.cell0
  have bc_v3 := bc_3.cell1
  have bc_w3 := bc_3.cell2
  go_wp2_with fail
  refine (awake6 _).mono ?_
  rintro e w4 ⟨rfl, b4⟩
  have ba_4 := ba_3.below b4 ba_3.lt
  have bb_4 := bb_3.below b4 bb_3.lt
  have bc_4 := bc_3.below b4 bc_3.lt
  have F4 := below_then F3 (Nat.le_refl _) b4
  have ba_u4 := ba_4.cell0
  have ba_v4 := ba_4.cell1
  have ba_w4 := ba_4.cell2
  have bb_u4 := bb_4.cell0
  have bb_v4 := bb_4.cell1
  have bb_w4 := bb_4.cell2
  have bc_u4 := bc_4.cell0
  have bc_v4 := bc_4.cell1
  have bc_w4 := bc_4.cell2
  go_wp2_with fail
  refine (short_yes _ _ h1).mono ?_
  rintro e w5 ⟨rfl, b5⟩
  have ba_5 := ba_4.below b5 ba_4.lt
  have bb_5 := bb_4.below b5 bb_4.lt
  have bc_5 := bc_4.below b5 bc_4.lt
  have F5 := below_then F4 (Nat.le_refl _) b5
  have ba_u5 := ba_5.cell0
  have ba_v5 := ba_5.cell1
  have ba_w5 := ba_5.cell2
  have bb_u5 := bb_5.cell0
  have bb_v5 := bb_5.cell1
  have bb_w5 := bb_5.cell2
  have bc_u5 := bc_5.cell0
  have bc_v5 := bc_5.cell1
  have bc_w5 := bc_5.cell2
  go_wp2_with fail
  refine (short_yes _ _ h2).mono ?_
  rintro e w6 ⟨rfl, b6⟩
  have ba_6 := ba_5.below b6 ba_5.lt
  have bb_6 := bb_5.below b6 bb_5.lt
  have bc_6 := bc_5.below b6 bc_5.lt
  have F6 := below_then F5 (Nat.le_refl _) b6
  have ba_u6 := ba_6.cell0
  have ba_v6 := ba_6.cell1
  have ba_w6 := ba_6.cell2
  have bb_u6 := bb_6.cell0
  have bb_v6 := bb_6.cell1
  have bb_w6 := bb_6.cell2
  have bc_u6 := bc_6.cell0
  have bc_v6 := bc_6.cell1
  have bc_w6 := bc_6.cell2
  go_wp2_with fail
  refine (short_no _ _ HN.out).mono ?_
  rintro e w7 ⟨rfl, b7⟩
  have ba_7 := ba_6.below b7 ba_6.lt
  have bb_7 := bb_6.below b7 bb_6.lt
  have bc_7 := bc_6.below b7 bc_6.lt
  have F7 := below_then F6 (Nat.le_refl _) b7
  have ba_u7 := ba_7.cell0
  have ba_v7 := ba_7.cell1
  have ba_w7 := ba_7.cell2
  have bb_u7 := bb_7.cell0
  have bb_v7 := bb_7.cell1
  have bb_w7 := bb_7.cell2
  have bc_u7 := bc_7.cell0
  have bc_v7 := bc_7.cell1
  have bc_w7 := bc_7.cell2
  go_wp2
  go_ret
  exact ⟨rfl, F7⟩
set_option maxHeartbeats 4000000 in
theorem mk_yes (u v x : Rv) (xs ys xs' ys' zs ws : List Nat) (w : World) (hu : Rx w u xs ys) (hv : Rx w v xs' ys') (hx : Rx w x zs ws) (h1 : Lu 2 u) (h2 : Lu 2 v) (h3 : Lu 2 x) (hpq : rv u.s xs ys ≤ rv v.s xs' ys') : Calls Try.prog 3 #[.agg #[.bool u.s, .slice u.A u.n u.c, .slice u.B u.m u.d], .agg #[.bool v.s, .slice v.A v.n v.c, .slice v.B v.m v.d], .agg #[.bool x.s, .slice x.A x.n x.c, .slice x.B x.m x.d]] w (fun e w' => e = .returned (.bool true) ∧ Below w.heap.size w w') := by
  obtain ⟨r9, hr9⟩ : ∃ r, (isC u.s xs ys && isC v.s xs' ys' && decide (rv u.s xs ys ≤ rv v.s xs' ys')) = r := ⟨_, rfl⟩
  have sp2 := hu.iu.size h1 (by decide)
  have sq2 := hv.iu.size h2 (by decide)
  have sz2 := hx.iu.size h3 (by decide)
  obtain ⟨p, hp⟩ : ∃ p, rv u.s xs ys = p := ⟨_, rfl⟩
  obtain ⟨q, hq⟩ : ∃ q, rv v.s xs' ys' = q := ⟨_, rfl⟩
  obtain ⟨z, hz⟩ : ∃ z, rv x.s zs ws = z := ⟨_, rfl⟩
  have ku : Iu w u p := hp ▸ hu.iu
  have kv : Iu w v q := hq ▸ hv.iu
  have kx : Iu w x z := hz ▸ hx.iu
  rw [hp] at sp2 hpq
  rw [hq] at sq2 hpq
  rw [hz] at sz2
  have sp := sp2.m (show 2 ≤ 100 by decide)
  have sq := sq2.m (show 2 ≤ 100 by decide)
  have sz_ := sz2.m (show 2 ≤ 100 by decide)
  obtain ⟨r, hr⟩ : ∃ r, (decide (p ≤ z) && decide (z ≤ q)) = r := ⟨_, rfl⟩
  have x1 : (r == r) = true := by simp
  have x2 : (r9 != r9) = false := by simp
  have HR := hide hr
  have HR9 := hide hr9
  have HPQ := hide hpq
  have a1 := h1.mono (show 2 ≤ 100 by decide)
  have a2 := h2.mono (show 2 ≤ 100 by decide)
  have a3 := h3.mono (show 2 ≤ 100 by decide)
  have c1 := h1.mono (show 2 ≤ 4000 by decide)
  have c2 := h2.mono (show 2 ≤ 4000 by decide)
  have c3 := h3.mono (show 2 ≤ 4000 by decide)
  have k4 : 100 ≤ 4000 := by decide
  have k1 : 100 ≤ 100 := by decide
  clear hr hr9 hpq hp hq hz sp2 sq2 sz2 hx
  have hu_1 := hu.alloc (EU u)
  have hv_1 := hv.alloc (EU u)
  have ku_1 := ku.alloc (EU u)
  have kv_1 := kv.alloc (EU u)
  have kx_1 := kx.alloc (EU u)
  have ba_1 : Su ((w).alloc (EU u)) (w.heap.size) u := by have h_ := Su.new (w) u; exact h_
  have F1 := (Below.refl w.heap.size w).alloc (Nat.le_refl _) (EU u)
  have hu_2 := hu_1.alloc (EU v)
  have hv_2 := hv_1.alloc (EU v)
  have ku_2 := ku_1.alloc (EU v)
  have kv_2 := kv_1.alloc (EU v)
  have kx_2 := kx_1.alloc (EU v)
  have ba_2 := ba_1.alloc (EU v)
  have bb_2 : Su (((w).alloc (EU u)).alloc (EU v)) (w.heap.size + 1) v := by have h_ := Su.new ((w).alloc (EU u)) v; simp only [World.size_alloc] at h_; exact h_
  have F2 := F1.alloc F1.size (EU v)
  have hu_3 := hu_2.alloc (EU x)
  have hv_3 := hv_2.alloc (EU x)
  have ku_3 := ku_2.alloc (EU x)
  have kv_3 := kv_2.alloc (EU x)
  have kx_3 := kx_2.alloc (EU x)
  have ba_3 := ba_2.alloc (EU x)
  have bb_3 := bb_2.alloc (EU x)
  have bc_3 : Su ((((w).alloc (EU u)).alloc (EU v)).alloc (EU x)) (w.heap.size + 2) x := by have h_ := Su.new (((w).alloc (EU u)).alloc (EU v)) x; simp only [World.size_alloc] at h_; exact h_
  have F3 := F2.alloc F2.size (EU x)
  go_enter Try.func3, Try.ntmps3
  have ba_u3 := ba_3.cell0
  have ba_v3 := ba_3.cell1
  have ba_w3 := ba_3.cell2
  have bb_u3 := bb_3.cell0
  have bb_v3 := bb_3.cell1
  have bb_w3 := bb_3.cell2
  have bc_u3 := bc_3.cell0
  have bc_v3 := bc_3.cell1
  have bc_w3 := bc_3.cell2
  go_wp2_with fail
  refine (awake6 _).mono ?_
  rintro e w4 ⟨rfl, b4⟩
  have hu_4 := hu_3.below b4
  have hv_4 := hv_3.below b4
  have ku_4 := ku_3.below b4
  have kv_4 := kv_3.below b4
  have kx_4 := kx_3.below b4
  have ba_4 := ba_3.below b4 ba_3.lt
  have bb_4 := bb_3.below b4 bb_3.lt
  have bc_4 := bc_3.below b4 bc_3.lt
  have F4 := below_then F3 (Nat.le_refl _) b4
  have ba_u4 := ba_4.cell0
  have ba_v4 := ba_4.cell1
  have ba_w4 := ba_4.cell2
  have bb_u4 := bb_4.cell0
  have bb_v4 := bb_4.cell1
  have bb_w4 := bb_4.cell2
  have bc_u4 := bc_4.cell0
  have bc_v4 := bc_4.cell1
  have bc_w4 := bc_4.cell2
  go_wp2_with fail
  refine (short_yes _ _ h1).mono ?_
  rintro e w5 ⟨rfl, b5⟩
  have hu_5 := hu_4.below b5
  have hv_5 := hv_4.below b5
  have ku_5 := ku_4.below b5
  have kv_5 := kv_4.below b5
  have kx_5 := kx_4.below b5
  have ba_5 := ba_4.below b5 ba_4.lt
  have bb_5 := bb_4.below b5 bb_4.lt
  have bc_5 := bc_4.below b5 bc_4.lt
  have F5 := below_then F4 (Nat.le_refl _) b5
  have ba_u5 := ba_5.cell0
  have ba_v5 := ba_5.cell1
  have ba_w5 := ba_5.cell2
  have bb_u5 := bb_5.cell0
  have bb_v5 := bb_5.cell1
  have bb_w5 := bb_5.cell2
  have bc_u5 := bc_5.cell0
  have bc_v5 := bc_5.cell1
  have bc_w5 := bc_5.cell2
  go_wp2_with fail
  refine (short_yes _ _ h2).mono ?_
  rintro e w6 ⟨rfl, b6⟩
  have hu_6 := hu_5.below b6
  have hv_6 := hv_5.below b6
  have ku_6 := ku_5.below b6
  have kv_6 := kv_5.below b6
  have kx_6 := kx_5.below b6
  have ba_6 := ba_5.below b6 ba_5.lt
  have bb_6 := bb_5.below b6 bb_5.lt
  have bc_6 := bc_5.below b6 bc_5.lt
  have F6 := below_then F5 (Nat.le_refl _) b6
  have ba_u6 := ba_6.cell0
  have ba_v6 := ba_6.cell1
  have ba_w6 := ba_6.cell2
  have bb_u6 := bb_6.cell0
  have bb_v6 := bb_6.cell1
  have bb_w6 := bb_6.cell2
  have bc_u6 := bc_6.cell0
  have bc_v6 := bc_6.cell1
  have bc_w6 := bc_6.cell2
  go_wp2_with fail
  refine (short_yes _ _ h3).mono ?_
  rintro e w7 ⟨rfl, b7⟩
  have hu_7 := hu_6.below b7
  have hv_7 := hv_6.below b7
  have ku_7 := ku_6.below b7
  have kv_7 := kv_6.below b7
  have kx_7 := kx_6.below b7
  have ba_7 := ba_6.below b7 ba_6.lt
  have bb_7 := bb_6.below b7 bb_6.lt
  have bc_7 := bc_6.below b7 bc_6.lt
  have F7 := below_then F6 (Nat.le_refl _) b7
  have ba_u7 := ba_7.cell0
  have ba_v7 := ba_7.cell1
  have ba_w7 := ba_7.cell2
  have bb_u7 := bb_7.cell0
  have bb_v7 := bb_7.cell1
  have bb_w7 := bb_7.cell2
  have bc_u7 := bc_7.cell0
  have bc_v7 := bc_7.cell1
  have bc_w7 := bc_7.cell2
  go_wp2_with fail
  refine (imake_iv _ _ p q _ ku_7 kv_7 a1 a2 sp sq HPQ.out).mono ?_
  rintro e w8 ⟨u8, v8, rfl, i1, i2, b8⟩
  have hu_8 := hu_7.below b8
  have hv_8 := hv_7.below b8
  have ku_8 := ku_7.below b8
  have kv_8 := kv_7.below b8
  have kx_8 := kx_7.below b8
  have ba_8 := ba_7.below b8 ba_7.lt
  have bb_8 := bb_7.below b8 bb_7.lt
  have bc_8 := bc_7.below b8 bc_7.lt
  have F8 := below_then F7 (Nat.le_refl _) b8
  have ba_u8 := ba_8.cell0
  have ba_v8 := ba_8.cell1
  have ba_w8 := ba_8.cell2
  have bb_u8 := bb_8.cell0
  have bb_v8 := bb_8.cell1
  have bb_w8 := bb_8.cell2
  have bc_u8 := bc_8.cell0
  have bc_v8 := bc_8.cell1
  have bc_w8 := bc_8.cell2
  have lt_bi_ba := ba_8.lt
  have lt_bi_bb := bb_8.lt
  have lt_bi_bc := bc_8.lt
  have hu_9 := hu_8.alloc (EV u8 v8)
  have hv_9 := hv_8.alloc (EV u8 v8)
  have ku_9 := ku_8.alloc (EV u8 v8)
  have kv_9 := kv_8.alloc (EV u8 v8)
  have kx_9 := kx_8.alloc (EV u8 v8)
  have i1_9 := i1.alloc (EV u8 v8)
  have i2_9 := i2.alloc (EV u8 v8)
  have ba_9 := ba_8.alloc (EV u8 v8)
  have bb_9 := bb_8.alloc (EV u8 v8)
  have bc_9 := bc_8.alloc (EV u8 v8)
  have bi_9 : Sv ((w8).alloc (EV u8 v8)) (w8.heap.size) u8 v8 := by have h_ := Sv.new (w8) u8 v8; exact h_
  have F9 := F8.alloc F8.size (EV u8 v8)
  have ba_u9 := ba_9.cell0
  have ba_v9 := ba_9.cell1
  have ba_w9 := ba_9.cell2
  have bb_u9 := bb_9.cell0
  have bb_v9 := bb_9.cell1
  have bb_w9 := bb_9.cell2
  have bc_u9 := bc_9.cell0
  have bc_v9 := bc_9.cell1
  have bc_w9 := bc_9.cell2
  have bi_u9 := bi_9.cell0
  have bi_v9 := bi_9.cell1
  have bi_w9 := bi_9.cell2
  have bi_x9 := bi_9.cell3
  have bi_y9 := bi_9.cell4
  have bi_z9 := bi_9.cell5
  go_wp2_with fail
  refine (make_iv _ _ p q _ ku_9 kv_9 c1 c2 HPQ.out).mono ?_
  rintro e w10 ⟨u10, v10, rfl, j1, j2, b10⟩
  have hu_10 := hu_9.below b10
  have hv_10 := hv_9.below b10
  have ku_10 := ku_9.below b10
  have kv_10 := kv_9.below b10
  have kx_10 := kx_9.below b10
  have i1_10 := i1_9.below b10
  have i2_10 := i2_9.below b10
  have ba_10 := ba_9.below b10 ba_9.lt
  have bb_10 := bb_9.below b10 bb_9.lt
  have bc_10 := bc_9.below b10 bc_9.lt
  have bi_10 := bi_9.below b10 bi_9.lt
  have F10 := below_then F9 (Nat.le_refl _) b10
  have ba_u10 := ba_10.cell0
  have ba_v10 := ba_10.cell1
  have ba_w10 := ba_10.cell2
  have bb_u10 := bb_10.cell0
  have bb_v10 := bb_10.cell1
  have bb_w10 := bb_10.cell2
  have bc_u10 := bc_10.cell0
  have bc_v10 := bc_10.cell1
  have bc_w10 := bc_10.cell2
  have bi_u10 := bi_10.cell0
  have bi_v10 := bi_10.cell1
  have bi_w10 := bi_10.cell2
  have bi_x10 := bi_10.cell3
  have bi_y10 := bi_10.cell4
  have bi_z10 := bi_10.cell5
  have lt_bj_ba := ba_10.lt
  have lt_bj_bb := bb_10.lt
  have lt_bj_bc := bc_10.lt
  have lt_bj_bi := bi_10.lt
  have hu_11 := hu_10.alloc (EV u10 v10)
  have hv_11 := hv_10.alloc (EV u10 v10)
  have ku_11 := ku_10.alloc (EV u10 v10)
  have kv_11 := kv_10.alloc (EV u10 v10)
  have kx_11 := kx_10.alloc (EV u10 v10)
  have i1_11 := i1_10.alloc (EV u10 v10)
  have i2_11 := i2_10.alloc (EV u10 v10)
  have j1_11 := j1.alloc (EV u10 v10)
  have j2_11 := j2.alloc (EV u10 v10)
  have ba_11 := ba_10.alloc (EV u10 v10)
  have bb_11 := bb_10.alloc (EV u10 v10)
  have bc_11 := bc_10.alloc (EV u10 v10)
  have bi_11 := bi_10.alloc (EV u10 v10)
  have bj_11 : Sv ((w10).alloc (EV u10 v10)) (w10.heap.size) u10 v10 := by have h_ := Sv.new (w10) u10 v10; exact h_
  have F11 := F10.alloc F10.size (EV u10 v10)
  have ba_u11 := ba_11.cell0
  have ba_v11 := ba_11.cell1
  have ba_w11 := ba_11.cell2
  have bb_u11 := bb_11.cell0
  have bb_v11 := bb_11.cell1
  have bb_w11 := bb_11.cell2
  have bc_u11 := bc_11.cell0
  have bc_v11 := bc_11.cell1
  have bc_w11 := bc_11.cell2
  have bi_u11 := bi_11.cell0
  have bi_v11 := bi_11.cell1
  have bi_w11 := bi_11.cell2
  have bi_x11 := bi_11.cell3
  have bi_y11 := bi_11.cell4
  have bi_z11 := bi_11.cell5
  have bj_u11 := bj_11.cell0
  have bj_v11 := bj_11.cell1
  have bj_w11 := bj_11.cell2
  have bj_x11 := bj_11.cell3
  have bj_y11 := bj_11.cell4
  have bj_z11 := bj_11.cell5
  have hu_12 := hu_11.alloc (EV u v)
  have hv_12 := hv_11.alloc (EV u v)
  have kx_12 := kx_11.alloc (EV u v)
  have i1_12 := i1_11.alloc (EV u v)
  have i2_12 := i2_11.alloc (EV u v)
  have j1_12 := j1_11.alloc (EV u v)
  have j2_12 := j2_11.alloc (EV u v)
  have ba_12 := ba_11.alloc (EV u v)
  have bb_12 := bb_11.alloc (EV u v)
  have bc_12 := bc_11.alloc (EV u v)
  have bi_12 := bi_11.alloc (EV u v)
  have bj_12 := bj_11.alloc (EV u v)
  have br_12 : Sv (((w10).alloc (EV u10 v10)).alloc (EV u v)) (w10.heap.size + 1) u v := by have h_ := Sv.new ((w10).alloc (EV u10 v10)) u v; simp only [World.size_alloc] at h_; exact h_
  have F12 := F11.alloc F11.size (EV u v)
  have ba_u12 := ba_12.cell0
  have ba_v12 := ba_12.cell1
  have ba_w12 := ba_12.cell2
  have bb_u12 := bb_12.cell0
  have bb_v12 := bb_12.cell1
  have bb_w12 := bb_12.cell2
  have bc_u12 := bc_12.cell0
  have bc_v12 := bc_12.cell1
  have bc_w12 := bc_12.cell2
  have bi_u12 := bi_12.cell0
  have bi_v12 := bi_12.cell1
  have bi_w12 := bi_12.cell2
  have bi_x12 := bi_12.cell3
  have bi_y12 := bi_12.cell4
  have bi_z12 := bi_12.cell5
  have bj_u12 := bj_12.cell0
  have bj_v12 := bj_12.cell1
  have bj_w12 := bj_12.cell2
  have bj_x12 := bj_12.cell3
  have bj_y12 := bj_12.cell4
  have bj_z12 := bj_12.cell5
  have br_u12 := br_12.cell0
  have br_v12 := br_12.cell1
  have br_w12 := br_12.cell2
  have br_x12 := br_12.cell3
  have br_y12 := br_12.cell4
  have br_z12 := br_12.cell5
  go_wp2_with fail
  have hu_13 := hu_12.drew
  have hv_13 := hv_12.drew
  have kx_13 := kx_12.drew
  have i1_13 := i1_12.drew
  have i2_13 := i2_12.drew
  have j1_13 := j1_12.drew
  have j2_13 := j2_12.drew
  have ba_13 := ba_12.drew
  have bb_13 := bb_12.drew
  have bc_13 := bc_12.drew
  have bi_13 := bi_12.drew
  have bj_13 := bj_12.drew
  have br_13 := br_12.drew
  have F13 := F12.drew
  go_region_held3 (fun w' => w'.cell? ⟨w8.heap.size, 0, none⟩ = some (.bool u8.s) ∧ w'.cell? ⟨w8.heap.size, 1, none⟩ = some (.slice u8.A u8.n u8.c) ∧ w'.cell? ⟨w8.heap.size, 2, none⟩ = some (.slice u8.B u8.m u8.d) ∧ w'.cell? ⟨w8.heap.size, 3, none⟩ = some (.bool v8.s) ∧ w'.cell? ⟨w8.heap.size, 4, none⟩ = some (.slice v8.A v8.n v8.c) ∧ w'.cell? ⟨w8.heap.size, 5, none⟩ = some (.slice v8.B v8.m v8.d) ∧ w'.cell? ⟨w10.heap.size, 0, none⟩ = some (.bool u10.s) ∧ w'.cell? ⟨w10.heap.size, 1, none⟩ = some (.slice u10.A u10.n u10.c) ∧ w'.cell? ⟨w10.heap.size, 2, none⟩ = some (.slice u10.B u10.m u10.d) ∧ w'.cell? ⟨w10.heap.size, 3, none⟩ = some (.bool v10.s) ∧ w'.cell? ⟨w10.heap.size, 4, none⟩ = some (.slice v10.A v10.n v10.c) ∧ w'.cell? ⟨w10.heap.size, 5, none⟩ = some (.slice v10.B v10.m v10.d) ∧ w'.cell? ⟨w10.heap.size + 1, 0, none⟩ = some (.bool u.s) ∧ w'.cell? ⟨w10.heap.size + 1, 1, none⟩ = some (.slice u.A u.n u.c) ∧ w'.cell? ⟨w10.heap.size + 1, 2, none⟩ = some (.slice u.B u.m u.d) ∧ w'.cell? ⟨w10.heap.size + 1, 3, none⟩ = some (.bool v.s) ∧ w'.cell? ⟨w10.heap.size + 1, 4, none⟩ = some (.slice v.A v.n v.c) ∧ w'.cell? ⟨w10.heap.size + 1, 5, none⟩ = some (.slice v.B v.m v.d) ∧ w'.cell? ⟨w.heap.size + 2, 0, none⟩ = some (.bool x.s) ∧ w'.cell? ⟨w.heap.size + 2, 1, none⟩ = some (.slice x.A x.n x.c) ∧ w'.cell? ⟨w.heap.size + 2, 2, none⟩ = some (.slice x.B x.m x.d))
    (first
      | with_reducible exact ⟨bi_16.cell0, bi_16.cell1, bi_16.cell2, bi_16.cell3, bi_16.cell4, bi_16.cell5, bj_16.cell0, bj_16.cell1, bj_16.cell2, bj_16.cell3, bj_16.cell4, bj_16.cell5, br_16.cell0, br_16.cell1, br_16.cell2, br_16.cell3, br_16.cell4, br_16.cell5, bc_16.cell0, bc_16.cell1, bc_16.cell2⟩
      | with_reducible exact ⟨bi_15.cell0, bi_15.cell1, bi_15.cell2, bi_15.cell3, bi_15.cell4, bi_15.cell5, bj_15.cell0, bj_15.cell1, bj_15.cell2, bj_15.cell3, bj_15.cell4, bj_15.cell5, br_15.cell0, br_15.cell1, br_15.cell2, br_15.cell3, br_15.cell4, br_15.cell5, bc_15.cell0, bc_15.cell1, bc_15.cell2⟩
      | with_reducible exact ⟨bi_14.cell0, bi_14.cell1, bi_14.cell2, bi_14.cell3, bi_14.cell4, bi_14.cell5, bj_14.cell0, bj_14.cell1, bj_14.cell2, bj_14.cell3, bj_14.cell4, bj_14.cell5, br_14.cell0, br_14.cell1, br_14.cell2, br_14.cell3, br_14.cell4, br_14.cell5, bc_14.cell0, bc_14.cell1, bc_14.cell2⟩
      | with_reducible exact ⟨bi_13.cell0, bi_13.cell1, bi_13.cell2, bi_13.cell3, bi_13.cell4, bi_13.cell5, bj_13.cell0, bj_13.cell1, bj_13.cell2, bj_13.cell3, bj_13.cell4, bj_13.cell5, br_13.cell0, br_13.cell1, br_13.cell2, br_13.cell3, br_13.cell4, br_13.cell5, bc_13.cell0, bc_13.cell1, bc_13.cell2⟩
      | fail)
    (first
      | (go_at_call 13; (with_reducible refine (same_iv _ _ _ _ p q _ i1_13 i2_13 j1_13 j2_13 ((i1_13.len sp).mono k4) ((i2_13.len sq).mono k4)).mono ?_); rintro e w14 ⟨rfl, b14⟩; have hu_14 := hu_13.below b14; have hv_14 := hv_13.below b14; have kx_14 := kx_13.below b14; have i1_14 := i1_13.below b14; have i2_14 := i2_13.below b14; have j1_14 := j1_13.below b14; have j2_14 := j2_13.below b14; have ba_14 := ba_13.below b14 ba_13.lt; have bb_14 := bb_13.below b14 bb_13.lt; have bc_14 := bc_13.below b14 bc_13.lt; have bi_14 := bi_13.below b14 bi_13.lt; have bj_14 := bj_13.below b14 bj_13.lt; have br_14 := br_13.below b14 br_13.lt; have F14 := below_then F13 (Nat.le_refl _) b14)
      | (go_at_call 14; (with_reducible refine (ivalid_iv _ _ xs ys xs' ys' r9 _ HR9.out hu_14 hv_14 a1 a2).mono ?_); rintro e w15 ⟨rfl, b15⟩; have hu_15 := hu_14.below b15; have hv_15 := hv_14.below b15; have kx_15 := kx_14.below b15; have i1_15 := i1_14.below b15; have i2_15 := i2_14.below b15; have j1_15 := j1_14.below b15; have j2_15 := j2_14.below b15; have ba_15 := ba_14.below b15 ba_14.lt; have bb_15 := bb_14.below b15 bb_14.lt; have bc_15 := bc_14.below b15 bc_14.lt; have bi_15 := bi_14.below b15 bi_14.lt; have bj_15 := bj_14.below b15 bj_14.lt; have br_15 := br_14.below b15 br_14.lt; have F15 := below_then F14 (Nat.le_refl _) b15)
      | (go_at_call 15; (with_reducible refine (valid_iv _ _ xs ys xs' ys' r9 _ HR9.out hu_15 hv_15 c1 c2).mono ?_); rintro e w16 ⟨rfl, b16⟩; have hu_16 := hu_15.below b16; have hv_16 := hv_15.below b16; have kx_16 := kx_15.below b16; have i1_16 := i1_15.below b16; have i2_16 := i2_15.below b16; have j1_16 := j1_15.below b16; have j2_16 := j2_15.below b16; have ba_16 := ba_15.below b16 ba_15.lt; have bb_16 := bb_15.below b16 bb_15.lt; have bc_16 := bc_15.below b16 bc_15.lt; have bi_16 := bi_15.below b16 bi_15.lt; have bj_16 := bj_15.below b16 bj_15.lt; have br_16 := br_15.below b16 br_15.lt; have F16 := below_then F15 (Nat.le_refl _) b16)
      | fail)
  have ba_u16 := ba_16.cell0
  have ba_v16 := ba_16.cell1
  have ba_w16 := ba_16.cell2
  have bb_u16 := bb_16.cell0
  have bb_v16 := bb_16.cell1
  have bb_w16 := bb_16.cell2
  have bc_u16 := bc_16.cell0
  have bc_v16 := bc_16.cell1
  have bc_w16 := bc_16.cell2
  have bi_u16 := bi_16.cell0
  have bi_v16 := bi_16.cell1
  have bi_w16 := bi_16.cell2
  have bi_x16 := bi_16.cell3
  have bi_y16 := bi_16.cell4
  have bi_z16 := bi_16.cell5
  have bj_u16 := bj_16.cell0
  have bj_v16 := bj_16.cell1
  have bj_w16 := bj_16.cell2
  have bj_x16 := bj_16.cell3
  have bj_y16 := bj_16.cell4
  have bj_z16 := bj_16.cell5
  have br_u16 := br_16.cell0
  have br_v16 := br_16.cell1
  have br_w16 := br_16.cell2
  have br_x16 := br_16.cell3
  have br_y16 := br_16.cell4
  have br_z16 := br_16.cell5
  go_wp2_with fail
  have kx_17 := kx_16.drew
  have i1_17 := i1_16.drew
  have i2_17 := i2_16.drew
  have bc_17 := bc_16.drew
  have bi_17 := bi_16.drew
  have F17 := F16.drew
  go_region_held3 (fun w' => w'.cell? ⟨w8.heap.size, 0, none⟩ = some (.bool u8.s) ∧ w'.cell? ⟨w8.heap.size, 1, none⟩ = some (.slice u8.A u8.n u8.c) ∧ w'.cell? ⟨w8.heap.size, 2, none⟩ = some (.slice u8.B u8.m u8.d) ∧ w'.cell? ⟨w8.heap.size, 3, none⟩ = some (.bool v8.s) ∧ w'.cell? ⟨w8.heap.size, 4, none⟩ = some (.slice v8.A v8.n v8.c) ∧ w'.cell? ⟨w8.heap.size, 5, none⟩ = some (.slice v8.B v8.m v8.d) ∧ w'.cell? ⟨w.heap.size + 2, 0, none⟩ = some (.bool x.s) ∧ w'.cell? ⟨w.heap.size + 2, 1, none⟩ = some (.slice x.A x.n x.c) ∧ w'.cell? ⟨w.heap.size + 2, 2, none⟩ = some (.slice x.B x.m x.d))
    (first
      | with_reducible exact ⟨bi_20.cell0, bi_20.cell1, bi_20.cell2, bi_20.cell3, bi_20.cell4, bi_20.cell5, bc_20.cell0, bc_20.cell1, bc_20.cell2⟩
      | with_reducible exact ⟨bi_19.cell0, bi_19.cell1, bi_19.cell2, bi_19.cell3, bi_19.cell4, bi_19.cell5, bc_19.cell0, bc_19.cell1, bc_19.cell2⟩
      | with_reducible exact ⟨bi_18.cell0, bi_18.cell1, bi_18.cell2, bi_18.cell3, bi_18.cell4, bi_18.cell5, bc_18.cell0, bc_18.cell1, bc_18.cell2⟩
      | with_reducible exact ⟨bi_17.cell0, bi_17.cell1, bi_17.cell2, bi_17.cell3, bi_17.cell4, bi_17.cell5, bc_17.cell0, bc_17.cell1, bc_17.cell2⟩
      | fail)
    (first
      | (go_at_call 14; (with_reducible refine (ivalid_iv _ _ _ _ _ _ true _ (Cu.vx i1_17 i2_17 HPQ.out) i1_17.rx i2_17.rx (i1_17.len sp) (i2_17.len sq)).mono ?_); rintro e w18 ⟨rfl, b18⟩; have kx_18 := kx_17.below b18; have i1_18 := i1_17.below b18; have i2_18 := i2_17.below b18; have bc_18 := bc_17.below b18 bc_17.lt; have bi_18 := bi_17.below b18 bi_17.lt; have F18 := below_then F17 (Nat.le_refl _) b18)
      | (go_at_call 16; (with_reducible refine (icont_iv _ _ _ p q z r _ HR.out i1_18 i2_18 kx_18 a3 HPQ.out sp sq sz_).mono ?_); rintro e w19 ⟨rfl, b19⟩; have kx_19 := kx_18.below b19; have i1_19 := i1_18.below b19; have i2_19 := i2_18.below b19; have bc_19 := bc_18.below b19 bc_18.lt; have bi_19 := bi_18.below b19 bi_18.lt; have F19 := below_then F18 (Nat.le_refl _) b19)
      | (go_at_call 17; (with_reducible refine (cont_iv _ _ _ p q z r _ HR.out i1_19.iu i2_19.iu kx_19 ((i1_19.len sp).mono k4) ((i2_19.len sq).mono k4) c3).mono ?_); rintro e w20 ⟨rfl, b20⟩; have kx_20 := kx_19.below b20; have i1_20 := i1_19.below b20; have i2_20 := i2_19.below b20; have bc_20 := bc_19.below b20 bc_19.lt; have bi_20 := bi_19.below b20 bi_19.lt; have F20 := below_then F19 (Nat.le_refl _) b20)
      | fail)
  have bc_u20 := bc_20.cell0
  have bc_v20 := bc_20.cell1
  have bc_w20 := bc_20.cell2
  have bi_u20 := bi_20.cell0
  have bi_v20 := bi_20.cell1
  have bi_w20 := bi_20.cell2
  have bi_x20 := bi_20.cell3
  have bi_y20 := bi_20.cell4
  have bi_z20 := bi_20.cell5
  go_wp2
  go_ret
  exact ⟨rfl, F20⟩
set_option maxHeartbeats 4000000 in
theorem mk_bad (u v x : Rv) (xs ys xs' ys' zs ws : List Nat) (w : World) (hu : Rx w u xs ys) (hv : Rx w v xs' ys') (hx : Rx w x zs ws) (h1 : Lu 2 u) (h2 : Lu 2 v) (h3 : Lu 2 x) (hpq : ¬ rv u.s xs ys ≤ rv v.s xs' ys') : Calls Try.prog 3 #[.agg #[.bool u.s, .slice u.A u.n u.c, .slice u.B u.m u.d], .agg #[.bool v.s, .slice v.A v.n v.c, .slice v.B v.m v.d], .agg #[.bool x.s, .slice x.A x.n x.c, .slice x.B x.m x.d]] w (fun e w' => e = .returned (.bool true) ∧ Below w.heap.size w w') := by
  obtain ⟨r9, hr9⟩ : ∃ r, (isC u.s xs ys && isC v.s xs' ys' && decide (rv u.s xs ys ≤ rv v.s xs' ys')) = r := ⟨_, rfl⟩
  have sp2 := hu.iu.size h1 (by decide)
  have sq2 := hv.iu.size h2 (by decide)
  have sz2 := hx.iu.size h3 (by decide)
  obtain ⟨p, hp⟩ : ∃ p, rv u.s xs ys = p := ⟨_, rfl⟩
  obtain ⟨q, hq⟩ : ∃ q, rv v.s xs' ys' = q := ⟨_, rfl⟩
  obtain ⟨z, hz⟩ : ∃ z, rv x.s zs ws = z := ⟨_, rfl⟩
  have ku : Iu w u p := hp ▸ hu.iu
  have kv : Iu w v q := hq ▸ hv.iu
  have kx : Iu w x z := hz ▸ hx.iu
  rw [hp] at sp2 hpq
  rw [hq] at sq2 hpq
  rw [hz] at sz2
  have sp := sp2.m (show 2 ≤ 100 by decide)
  have sq := sq2.m (show 2 ≤ 100 by decide)
  have sz_ := sz2.m (show 2 ≤ 100 by decide)
  obtain ⟨r, hr⟩ : ∃ r, (decide (p ≤ z) && decide (z ≤ q)) = r := ⟨_, rfl⟩
  have x1 : (r == r) = true := by simp
  have x2 : (r9 != r9) = false := by simp
  have HR := hide hr
  have HR9 := hide hr9
  have HPQ := hide hpq
  have a1 := h1.mono (show 2 ≤ 100 by decide)
  have a2 := h2.mono (show 2 ≤ 100 by decide)
  have a3 := h3.mono (show 2 ≤ 100 by decide)
  have c1 := h1.mono (show 2 ≤ 4000 by decide)
  have c2 := h2.mono (show 2 ≤ 4000 by decide)
  have c3 := h3.mono (show 2 ≤ 4000 by decide)
  have k4 : 100 ≤ 4000 := by decide
  have k1 : 100 ≤ 100 := by decide
  clear hr hr9 hpq hp hq hz sp2 sq2 sz2 hx
  have hu_1 := hu.alloc (EU u)
  have hv_1 := hv.alloc (EU u)
  have ku_1 := ku.alloc (EU u)
  have kv_1 := kv.alloc (EU u)
  have ba_1 : Su ((w).alloc (EU u)) (w.heap.size) u := by have h_ := Su.new (w) u; exact h_
  have F1 := (Below.refl w.heap.size w).alloc (Nat.le_refl _) (EU u)
  have hu_2 := hu_1.alloc (EU v)
  have hv_2 := hv_1.alloc (EU v)
  have ku_2 := ku_1.alloc (EU v)
  have kv_2 := kv_1.alloc (EU v)
  have ba_2 := ba_1.alloc (EU v)
  have bb_2 : Su (((w).alloc (EU u)).alloc (EU v)) (w.heap.size + 1) v := by have h_ := Su.new ((w).alloc (EU u)) v; simp only [World.size_alloc] at h_; exact h_
  have F2 := F1.alloc F1.size (EU v)
  have hu_3 := hu_2.alloc (EU x)
  have hv_3 := hv_2.alloc (EU x)
  have ku_3 := ku_2.alloc (EU x)
  have kv_3 := kv_2.alloc (EU x)
  have ba_3 := ba_2.alloc (EU x)
  have bb_3 := bb_2.alloc (EU x)
  have bc_3 : Su ((((w).alloc (EU u)).alloc (EU v)).alloc (EU x)) (w.heap.size + 2) x := by have h_ := Su.new (((w).alloc (EU u)).alloc (EU v)) x; simp only [World.size_alloc] at h_; exact h_
  have F3 := F2.alloc F2.size (EU x)
  go_enter Try.func3, Try.ntmps3
  have ba_u3 := ba_3.cell0
  have ba_v3 := ba_3.cell1
  have ba_w3 := ba_3.cell2
  have bb_u3 := bb_3.cell0
  have bb_v3 := bb_3.cell1
  have bb_w3 := bb_3.cell2
  have bc_u3 := bc_3.cell0
  have bc_v3 := bc_3.cell1
  have bc_w3 := bc_3.cell2
  go_wp2_with fail
  refine (awake6 _).mono ?_
  rintro e w4 ⟨rfl, b4⟩
  have hu_4 := hu_3.below b4
  have hv_4 := hv_3.below b4
  have ku_4 := ku_3.below b4
  have kv_4 := kv_3.below b4
  have ba_4 := ba_3.below b4 ba_3.lt
  have bb_4 := bb_3.below b4 bb_3.lt
  have bc_4 := bc_3.below b4 bc_3.lt
  have F4 := below_then F3 (Nat.le_refl _) b4
  have ba_u4 := ba_4.cell0
  have ba_v4 := ba_4.cell1
  have ba_w4 := ba_4.cell2
  have bb_u4 := bb_4.cell0
  have bb_v4 := bb_4.cell1
  have bb_w4 := bb_4.cell2
  have bc_u4 := bc_4.cell0
  have bc_v4 := bc_4.cell1
  have bc_w4 := bc_4.cell2
  go_wp2_with fail
  refine (short_yes _ _ h1).mono ?_
  rintro e w5 ⟨rfl, b5⟩
  have hu_5 := hu_4.below b5
  have hv_5 := hv_4.below b5
  have ku_5 := ku_4.below b5
  have kv_5 := kv_4.below b5
  have ba_5 := ba_4.below b5 ba_4.lt
  have bb_5 := bb_4.below b5 bb_4.lt
  have bc_5 := bc_4.below b5 bc_4.lt
  have F5 := below_then F4 (Nat.le_refl _) b5
  have ba_u5 := ba_5.cell0
  have ba_v5 := ba_5.cell1
  have ba_w5 := ba_5.cell2
  have bb_u5 := bb_5.cell0
  have bb_v5 := bb_5.cell1
  have bb_w5 := bb_5.cell2
  have bc_u5 := bc_5.cell0
  have bc_v5 := bc_5.cell1
  have bc_w5 := bc_5.cell2
  go_wp2_with fail
  refine (short_yes _ _ h2).mono ?_
  rintro e w6 ⟨rfl, b6⟩
  have hu_6 := hu_5.below b6
  have hv_6 := hv_5.below b6
  have ku_6 := ku_5.below b6
  have kv_6 := kv_5.below b6
  have ba_6 := ba_5.below b6 ba_5.lt
  have bb_6 := bb_5.below b6 bb_5.lt
  have bc_6 := bc_5.below b6 bc_5.lt
  have F6 := below_then F5 (Nat.le_refl _) b6
  have ba_u6 := ba_6.cell0
  have ba_v6 := ba_6.cell1
  have ba_w6 := ba_6.cell2
  have bb_u6 := bb_6.cell0
  have bb_v6 := bb_6.cell1
  have bb_w6 := bb_6.cell2
  have bc_u6 := bc_6.cell0
  have bc_v6 := bc_6.cell1
  have bc_w6 := bc_6.cell2
  go_wp2_with fail
  refine (short_yes _ _ h3).mono ?_
  rintro e w7 ⟨rfl, b7⟩
  have hu_7 := hu_6.below b7
  have hv_7 := hv_6.below b7
  have ku_7 := ku_6.below b7
  have kv_7 := kv_6.below b7
  have ba_7 := ba_6.below b7 ba_6.lt
  have bb_7 := bb_6.below b7 bb_6.lt
  have bc_7 := bc_6.below b7 bc_6.lt
  have F7 := below_then F6 (Nat.le_refl _) b7
  have ba_u7 := ba_7.cell0
  have ba_v7 := ba_7.cell1
  have ba_w7 := ba_7.cell2
  have bb_u7 := bb_7.cell0
  have bb_v7 := bb_7.cell1
  have bb_w7 := bb_7.cell2
  have bc_u7 := bc_7.cell0
  have bc_v7 := bc_7.cell1
  have bc_w7 := bc_7.cell2
  go_wp2_with fail
  refine (imake_no _ _ p q _ ku_7 kv_7 a1 a2 sp sq HPQ.out).mono ?_
  rintro e w8 ⟨u8, v8, rfl, i1, i2, b8⟩
  have hu_8 := hu_7.below b8
  have hv_8 := hv_7.below b8
  have ku_8 := ku_7.below b8
  have kv_8 := kv_7.below b8
  have ba_8 := ba_7.below b8 ba_7.lt
  have bb_8 := bb_7.below b8 bb_7.lt
  have bc_8 := bc_7.below b8 bc_7.lt
  have F8 := below_then F7 (Nat.le_refl _) b8
  have ba_u8 := ba_8.cell0
  have ba_v8 := ba_8.cell1
  have ba_w8 := ba_8.cell2
  have bb_u8 := bb_8.cell0
  have bb_v8 := bb_8.cell1
  have bb_w8 := bb_8.cell2
  have bc_u8 := bc_8.cell0
  have bc_v8 := bc_8.cell1
  have bc_w8 := bc_8.cell2
  have lt_bi_ba := ba_8.lt
  have lt_bi_bb := bb_8.lt
  have lt_bi_bc := bc_8.lt
  have hu_9 := hu_8.alloc (EV u8 v8)
  have hv_9 := hv_8.alloc (EV u8 v8)
  have ku_9 := ku_8.alloc (EV u8 v8)
  have kv_9 := kv_8.alloc (EV u8 v8)
  have i1_9 := i1.alloc (EV u8 v8)
  have i2_9 := i2.alloc (EV u8 v8)
  have ba_9 := ba_8.alloc (EV u8 v8)
  have bb_9 := bb_8.alloc (EV u8 v8)
  have bc_9 := bc_8.alloc (EV u8 v8)
  have bi_9 : Sv ((w8).alloc (EV u8 v8)) (w8.heap.size) u8 v8 := by have h_ := Sv.new (w8) u8 v8; exact h_
  have F9 := F8.alloc F8.size (EV u8 v8)
  have ba_u9 := ba_9.cell0
  have ba_v9 := ba_9.cell1
  have ba_w9 := ba_9.cell2
  have bb_u9 := bb_9.cell0
  have bb_v9 := bb_9.cell1
  have bb_w9 := bb_9.cell2
  have bc_u9 := bc_9.cell0
  have bc_v9 := bc_9.cell1
  have bc_w9 := bc_9.cell2
  have bi_u9 := bi_9.cell0
  have bi_v9 := bi_9.cell1
  have bi_w9 := bi_9.cell2
  have bi_x9 := bi_9.cell3
  have bi_y9 := bi_9.cell4
  have bi_z9 := bi_9.cell5
  go_wp2_with fail
  refine (make_no _ _ p q _ ku_9 kv_9 c1 c2 HPQ.out).mono ?_
  rintro e w10 ⟨u10, v10, rfl, j1, j2, b10⟩
  have hu_10 := hu_9.below b10
  have hv_10 := hv_9.below b10
  have ku_10 := ku_9.below b10
  have kv_10 := kv_9.below b10
  have i1_10 := i1_9.below b10
  have i2_10 := i2_9.below b10
  have ba_10 := ba_9.below b10 ba_9.lt
  have bb_10 := bb_9.below b10 bb_9.lt
  have bc_10 := bc_9.below b10 bc_9.lt
  have bi_10 := bi_9.below b10 bi_9.lt
  have F10 := below_then F9 (Nat.le_refl _) b10
  have ba_u10 := ba_10.cell0
  have ba_v10 := ba_10.cell1
  have ba_w10 := ba_10.cell2
  have bb_u10 := bb_10.cell0
  have bb_v10 := bb_10.cell1
  have bb_w10 := bb_10.cell2
  have bc_u10 := bc_10.cell0
  have bc_v10 := bc_10.cell1
  have bc_w10 := bc_10.cell2
  have bi_u10 := bi_10.cell0
  have bi_v10 := bi_10.cell1
  have bi_w10 := bi_10.cell2
  have bi_x10 := bi_10.cell3
  have bi_y10 := bi_10.cell4
  have bi_z10 := bi_10.cell5
  have lt_bj_ba := ba_10.lt
  have lt_bj_bb := bb_10.lt
  have lt_bj_bc := bc_10.lt
  have lt_bj_bi := bi_10.lt
  have hu_11 := hu_10.alloc (EV u10 v10)
  have hv_11 := hv_10.alloc (EV u10 v10)
  have ku_11 := ku_10.alloc (EV u10 v10)
  have kv_11 := kv_10.alloc (EV u10 v10)
  have i1_11 := i1_10.alloc (EV u10 v10)
  have i2_11 := i2_10.alloc (EV u10 v10)
  have j1_11 := j1.alloc (EV u10 v10)
  have j2_11 := j2.alloc (EV u10 v10)
  have ba_11 := ba_10.alloc (EV u10 v10)
  have bb_11 := bb_10.alloc (EV u10 v10)
  have bc_11 := bc_10.alloc (EV u10 v10)
  have bi_11 := bi_10.alloc (EV u10 v10)
  have bj_11 : Sv ((w10).alloc (EV u10 v10)) (w10.heap.size) u10 v10 := by have h_ := Sv.new (w10) u10 v10; exact h_
  have F11 := F10.alloc F10.size (EV u10 v10)
  have ba_u11 := ba_11.cell0
  have ba_v11 := ba_11.cell1
  have ba_w11 := ba_11.cell2
  have bb_u11 := bb_11.cell0
  have bb_v11 := bb_11.cell1
  have bb_w11 := bb_11.cell2
  have bc_u11 := bc_11.cell0
  have bc_v11 := bc_11.cell1
  have bc_w11 := bc_11.cell2
  have bi_u11 := bi_11.cell0
  have bi_v11 := bi_11.cell1
  have bi_w11 := bi_11.cell2
  have bi_x11 := bi_11.cell3
  have bi_y11 := bi_11.cell4
  have bi_z11 := bi_11.cell5
  have bj_u11 := bj_11.cell0
  have bj_v11 := bj_11.cell1
  have bj_w11 := bj_11.cell2
  have bj_x11 := bj_11.cell3
  have bj_y11 := bj_11.cell4
  have bj_z11 := bj_11.cell5
  have hu_12 := hu_11.alloc (EV u v)
  have hv_12 := hv_11.alloc (EV u v)
  have i1_12 := i1_11.alloc (EV u v)
  have i2_12 := i2_11.alloc (EV u v)
  have j1_12 := j1_11.alloc (EV u v)
  have j2_12 := j2_11.alloc (EV u v)
  have ba_12 := ba_11.alloc (EV u v)
  have bb_12 := bb_11.alloc (EV u v)
  have bc_12 := bc_11.alloc (EV u v)
  have bi_12 := bi_11.alloc (EV u v)
  have bj_12 := bj_11.alloc (EV u v)
  have br_12 : Sv (((w10).alloc (EV u10 v10)).alloc (EV u v)) (w10.heap.size + 1) u v := by have h_ := Sv.new ((w10).alloc (EV u10 v10)) u v; simp only [World.size_alloc] at h_; exact h_
  have F12 := F11.alloc F11.size (EV u v)
  have ba_u12 := ba_12.cell0
  have ba_v12 := ba_12.cell1
  have ba_w12 := ba_12.cell2
  have bb_u12 := bb_12.cell0
  have bb_v12 := bb_12.cell1
  have bb_w12 := bb_12.cell2
  have bc_u12 := bc_12.cell0
  have bc_v12 := bc_12.cell1
  have bc_w12 := bc_12.cell2
  have bi_u12 := bi_12.cell0
  have bi_v12 := bi_12.cell1
  have bi_w12 := bi_12.cell2
  have bi_x12 := bi_12.cell3
  have bi_y12 := bi_12.cell4
  have bi_z12 := bi_12.cell5
  have bj_u12 := bj_12.cell0
  have bj_v12 := bj_12.cell1
  have bj_w12 := bj_12.cell2
  have bj_x12 := bj_12.cell3
  have bj_y12 := bj_12.cell4
  have bj_z12 := bj_12.cell5
  have br_u12 := br_12.cell0
  have br_v12 := br_12.cell1
  have br_w12 := br_12.cell2
  have br_x12 := br_12.cell3
  have br_y12 := br_12.cell4
  have br_z12 := br_12.cell5
  have qs0 : Qs 100 0 := qs_lit6 (by decide +kernel)
  go_wp2_with fail
  have hu_13 := hu_12.drew
  have hv_13 := hv_12.drew
  have i1_13 := i1_12.drew
  have i2_13 := i2_12.drew
  have j1_13 := j1_12.drew
  have j2_13 := j2_12.drew
  have ba_13 := ba_12.drew
  have bb_13 := bb_12.drew
  have bc_13 := bc_12.drew
  have bi_13 := bi_12.drew
  have bj_13 := bj_12.drew
  have br_13 := br_12.drew
  have F13 := F12.drew
  go_region_held3 (fun w' => w'.cell? ⟨w8.heap.size, 0, none⟩ = some (.bool u8.s) ∧ w'.cell? ⟨w8.heap.size, 1, none⟩ = some (.slice u8.A u8.n u8.c) ∧ w'.cell? ⟨w8.heap.size, 2, none⟩ = some (.slice u8.B u8.m u8.d) ∧ w'.cell? ⟨w8.heap.size, 3, none⟩ = some (.bool v8.s) ∧ w'.cell? ⟨w8.heap.size, 4, none⟩ = some (.slice v8.A v8.n v8.c) ∧ w'.cell? ⟨w8.heap.size, 5, none⟩ = some (.slice v8.B v8.m v8.d) ∧ w'.cell? ⟨w10.heap.size, 0, none⟩ = some (.bool u10.s) ∧ w'.cell? ⟨w10.heap.size, 1, none⟩ = some (.slice u10.A u10.n u10.c) ∧ w'.cell? ⟨w10.heap.size, 2, none⟩ = some (.slice u10.B u10.m u10.d) ∧ w'.cell? ⟨w10.heap.size, 3, none⟩ = some (.bool v10.s) ∧ w'.cell? ⟨w10.heap.size, 4, none⟩ = some (.slice v10.A v10.n v10.c) ∧ w'.cell? ⟨w10.heap.size, 5, none⟩ = some (.slice v10.B v10.m v10.d) ∧ w'.cell? ⟨w10.heap.size + 1, 0, none⟩ = some (.bool u.s) ∧ w'.cell? ⟨w10.heap.size + 1, 1, none⟩ = some (.slice u.A u.n u.c) ∧ w'.cell? ⟨w10.heap.size + 1, 2, none⟩ = some (.slice u.B u.m u.d) ∧ w'.cell? ⟨w10.heap.size + 1, 3, none⟩ = some (.bool v.s) ∧ w'.cell? ⟨w10.heap.size + 1, 4, none⟩ = some (.slice v.A v.n v.c) ∧ w'.cell? ⟨w10.heap.size + 1, 5, none⟩ = some (.slice v.B v.m v.d) ∧ w'.cell? ⟨w.heap.size + 2, 0, none⟩ = some (.bool x.s) ∧ w'.cell? ⟨w.heap.size + 2, 1, none⟩ = some (.slice x.A x.n x.c) ∧ w'.cell? ⟨w.heap.size + 2, 2, none⟩ = some (.slice x.B x.m x.d))
    (first
      | with_reducible exact ⟨bi_16.cell0, bi_16.cell1, bi_16.cell2, bi_16.cell3, bi_16.cell4, bi_16.cell5, bj_16.cell0, bj_16.cell1, bj_16.cell2, bj_16.cell3, bj_16.cell4, bj_16.cell5, br_16.cell0, br_16.cell1, br_16.cell2, br_16.cell3, br_16.cell4, br_16.cell5, bc_16.cell0, bc_16.cell1, bc_16.cell2⟩
      | with_reducible exact ⟨bi_15.cell0, bi_15.cell1, bi_15.cell2, bi_15.cell3, bi_15.cell4, bi_15.cell5, bj_15.cell0, bj_15.cell1, bj_15.cell2, bj_15.cell3, bj_15.cell4, bj_15.cell5, br_15.cell0, br_15.cell1, br_15.cell2, br_15.cell3, br_15.cell4, br_15.cell5, bc_15.cell0, bc_15.cell1, bc_15.cell2⟩
      | with_reducible exact ⟨bi_14.cell0, bi_14.cell1, bi_14.cell2, bi_14.cell3, bi_14.cell4, bi_14.cell5, bj_14.cell0, bj_14.cell1, bj_14.cell2, bj_14.cell3, bj_14.cell4, bj_14.cell5, br_14.cell0, br_14.cell1, br_14.cell2, br_14.cell3, br_14.cell4, br_14.cell5, bc_14.cell0, bc_14.cell1, bc_14.cell2⟩
      | with_reducible exact ⟨bi_13.cell0, bi_13.cell1, bi_13.cell2, bi_13.cell3, bi_13.cell4, bi_13.cell5, bj_13.cell0, bj_13.cell1, bj_13.cell2, bj_13.cell3, bj_13.cell4, bj_13.cell5, br_13.cell0, br_13.cell1, br_13.cell2, br_13.cell3, br_13.cell4, br_13.cell5, bc_13.cell0, bc_13.cell1, bc_13.cell2⟩
      | fail)
    (first
      | (go_at_call 13; (with_reducible refine (same_iv _ _ _ _ 0 0 _ i1_13 i2_13 j1_13 j2_13 ((i1_13.len qs0).mono k4) ((i2_13.len qs0).mono k4)).mono ?_); rintro e w14 ⟨rfl, b14⟩; have hu_14 := hu_13.below b14; have hv_14 := hv_13.below b14; have i1_14 := i1_13.below b14; have i2_14 := i2_13.below b14; have j1_14 := j1_13.below b14; have j2_14 := j2_13.below b14; have ba_14 := ba_13.below b14 ba_13.lt; have bb_14 := bb_13.below b14 bb_13.lt; have bc_14 := bc_13.below b14 bc_13.lt; have bi_14 := bi_13.below b14 bi_13.lt; have bj_14 := bj_13.below b14 bj_13.lt; have br_14 := br_13.below b14 br_13.lt; have F14 := below_then F13 (Nat.le_refl _) b14)
      | (go_at_call 14; (with_reducible refine (ivalid_iv _ _ xs ys xs' ys' r9 _ HR9.out hu_14 hv_14 a1 a2).mono ?_); rintro e w15 ⟨rfl, b15⟩; have hu_15 := hu_14.below b15; have hv_15 := hv_14.below b15; have i1_15 := i1_14.below b15; have i2_15 := i2_14.below b15; have j1_15 := j1_14.below b15; have j2_15 := j2_14.below b15; have ba_15 := ba_14.below b15 ba_14.lt; have bb_15 := bb_14.below b15 bb_14.lt; have bc_15 := bc_14.below b15 bc_14.lt; have bi_15 := bi_14.below b15 bi_14.lt; have bj_15 := bj_14.below b15 bj_14.lt; have br_15 := br_14.below b15 br_14.lt; have F15 := below_then F14 (Nat.le_refl _) b15)
      | (go_at_call 15; (with_reducible refine (valid_iv _ _ xs ys xs' ys' r9 _ HR9.out hu_15 hv_15 c1 c2).mono ?_); rintro e w16 ⟨rfl, b16⟩; have hu_16 := hu_15.below b16; have hv_16 := hv_15.below b16; have i1_16 := i1_15.below b16; have i2_16 := i2_15.below b16; have j1_16 := j1_15.below b16; have j2_16 := j2_15.below b16; have ba_16 := ba_15.below b16 ba_15.lt; have bb_16 := bb_15.below b16 bb_15.lt; have bc_16 := bc_15.below b16 bc_15.lt; have bi_16 := bi_15.below b16 bi_15.lt; have bj_16 := bj_15.below b16 bj_15.lt; have br_16 := br_15.below b16 br_15.lt; have F16 := below_then F15 (Nat.le_refl _) b16)
      | fail)
  have ba_u16 := ba_16.cell0
  have ba_v16 := ba_16.cell1
  have ba_w16 := ba_16.cell2
  have bb_u16 := bb_16.cell0
  have bb_v16 := bb_16.cell1
  have bb_w16 := bb_16.cell2
  have bc_u16 := bc_16.cell0
  have bc_v16 := bc_16.cell1
  have bc_w16 := bc_16.cell2
  have bi_u16 := bi_16.cell0
  have bi_v16 := bi_16.cell1
  have bi_w16 := bi_16.cell2
  have bi_x16 := bi_16.cell3
  have bi_y16 := bi_16.cell4
  have bi_z16 := bi_16.cell5
  have bj_u16 := bj_16.cell0
  have bj_v16 := bj_16.cell1
  have bj_w16 := bj_16.cell2
  have bj_x16 := bj_16.cell3
  have bj_y16 := bj_16.cell4
  have bj_z16 := bj_16.cell5
  have br_u16 := br_16.cell0
  have br_v16 := br_16.cell1
  have br_w16 := br_16.cell2
  have br_x16 := br_16.cell3
  have br_y16 := br_16.cell4
  have br_z16 := br_16.cell5
  go_wp2_with fail
  go_quiet (fail)
  go_wp2
  go_ret
  exact ⟨rfl, below_drewN F16 _⟩
theorem law_make (u v x : Rv) (xs ys xs' ys' zs ws : List Nat) (w : World) (hu : Rx w u xs ys) (hv : Rx w v xs' ys') (hx : Rx w x zs ws) : Calls Try.prog 3 #[.agg #[.bool u.s, .slice u.A u.n u.c, .slice u.B u.m u.d], .agg #[.bool v.s, .slice v.A v.n v.c, .slice v.B v.m v.d], .agg #[.bool x.s, .slice x.A x.n x.c, .slice x.B x.m x.d]] w (fun e w' => e = .returned (.bool true) ∧ Below w.heap.size w w') := by
  by_cases h1 : Lu 2 u
  · by_cases h2 : Lu 2 v
    · by_cases h3 : Lu 2 x
      · by_cases h4 : rv u.s xs ys ≤ rv v.s xs' ys'
        · exact mk_yes u v x xs ys xs' ys' zs ws w hu hv hx h1 h2 h3 h4
        · exact mk_bad u v x xs ys xs' ys' zs ws w hu hv hx h1 h2 h3 h4
      · exact mk_n3 u v x xs ys xs' ys' zs ws w hu hv hx h1 h2 h3
    · exact mk_n2 u v x xs ys xs' ys' zs ws w hu hv hx h1 h2
  · exact mk_n1 u v x xs ys xs' ys' zs ws w hu hv hx h1
end Go.Proofs.Ytnddhohjfjlaiaa
