/-
  The walk of IntervalRound.
-/
import Derived.Test.YtnddhohjfjlaiaaGreatDoorU3
import Derived.Test.YtnddhohjfjlaiaaGreatDoorP6r
namespace Go.Proofs.YtnddhohjfjlaiaaGreatDoor
open Go.RowKit
set_option linter.unusedVariables false
set_option linter.unusedSimpArgs false

theorem iround_e (a c : Rv) (p q y z : Rat) (P : Int) (k : Nat) (w : World) (hy : tq p k false = y) (hz : tq q k true = z) (hP : P = (k : Int)) (hk : 1 ≤ k ∧ k ≤ 200) (ha : Cu w a p) (hc : Cu w c q) (hpq : p ≤ q) (sp : Qs 3 p) (sq : Qs 3 q) (T : Tb w) : Calls Tryz.prog 6 #[.agg #[.bool a.s, .slice a.A a.n a.c, .slice a.B a.m a.d, .bool c.s, .slice c.A c.n c.c, .slice c.B c.m c.d], .int .i64 P] w (GVE w y z 0) :=
  (iround_iv a c p q P k w hP hk ha hc hpq sp sq T).mono fun _ _ h => gve_to h hy hz
theorem rround_e (u v : Rv) (p q y z : Rat) (P : Int) (k : Nat) (w : World) (hy : tq p k false = y) (hz : tq q k true = z) (hu : Iu w u p) (hv : Iu w v q) (sp : Qs 3 p) (sq : Qs 3 q) (lu : Lu 3 u) (lv : Lu 3 v) (hP : P = (k : Int)) (hk : 1 ≤ k ∧ k ≤ 200) : Calls Tryz.prog 7 #[.agg #[.bool u.s, .slice u.A u.n u.c, .slice u.B u.m u.d, .bool v.s, .slice v.A v.n v.c, .slice v.B v.m v.d], .int .i64 P] w (GVE w y z 0) :=
  (round_iv u v p q P w hu hv sp sq lu lv k hP hk).mono fun _ _ h => gve_to h hy hz
/-- The size of a rounded number. -/
theorem dy_size {q : Rat} {K : Nat} (hi : Isd q) (hX : dm q < pw K) (hk : 1 ≤ K) (he : -300 ≤ de q ∧ de q ≤ 300) : Qs (K + 10) q := by
  have h := dvl_of hi
  have h7 : ∀ k : Nat, k ≤ 300 → 2 ^ k < pw 10 := fun k hk => two_lt_pw (by omega)
  obtain ⟨I, hI⟩ : ∃ I : Int, (if decide (q < 0) then -(dm q : Int) else (dm q : Int) : Int) = I := ⟨_, rfl⟩
  have hIa : I.natAbs = dm q := by rw [← hI, sgn_abs]
  have hpos : 0 < pw K := pw_pos K
  unfold dvl at h
  rw [hI] at h
  rcases Int.le_total 0 (de q) with h0 | h0
  · obtain ⟨k, hk⟩ : ∃ k : Nat, de q = (k : Int) := ⟨(de q).toNat, by omega⟩
    rw [hk, int_up] at h
    have h2 := h7 k (by omega)
    have h5 : q.num = I * ((2 ^ k : Nat) : Int) := by rw [← h]; rfl
    have h3 : q.num.natAbs = dm q * 2 ^ k := by rw [h5, Int.natAbs_mul, hIa, Int.natAbs_natCast]
    have h4 : q.den = 1 := by rw [← h]; rfl
    refine ⟨?_, ?_⟩
    · rw [h3]
      exact mul_pw hX h2
    · rw [h4]
      exact Nat.lt_of_lt_of_le (by decide : 1 < pw 1) (pw_mono (by omega))
  · obtain ⟨k, hk⟩ : ∃ k : Nat, de q = -(k : Int) := ⟨(-de q).toNat, by omega⟩
    rw [hk, int_p2] at h
    have h2 := h7 k (by omega)
    have h3 := mk_size I (2 ^ k) (by have := Nat.two_pow_pos k; omega)
    rw [h, hIa] at h3
    refine ⟨Nat.lt_of_le_of_lt h3.1 (Nat.lt_of_lt_of_le hX (pw_mono (by omega))), Nat.lt_of_le_of_lt h3.2 (Nat.lt_of_lt_of_le h2 (pw_mono (by omega)))⟩
theorem tq_qs6 {q : Rat} {k : Nat} (up : Bool) (hs : Qs 3 q) (hk : 1 ≤ k) (hk2 : k ≤ 200) : Qs 18 (tq q k up) := by
  have h1 := tq_de (k := k) up hk hs
  have h2 : dm (tq q k up) < pw 8 := tq_pw up hk (by omega)
  have h3 : Isd (tq q k up) := by
    cases up
    · exact (dk_iff.1 (tq_dn q hk).1).1
    · exact (dk_iff.1 (tq_up q hk).1).1
  exact dy_size h3 h2 (by decide) (by omega)
theorem ro_no (u v : Rv) (xs ys xs' ys' : List Nat) (P : Int) (w : World) (hu : Rx w u xs ys) (hv : Rx w v xs' ys') (hh : ¬ (Lu 2 u ∧ Lu 2 v ∧ (isC u.s xs ys && isC v.s xs' ys' && decide (rv u.s xs ys ≤ rv v.s xs' ys')) = true)) : Calls Tryz.prog 3 #[.agg #[.bool u.s, .slice u.A u.n u.c, .slice u.B u.m u.d, .bool v.s, .slice v.A v.n v.c, .slice v.B v.m v.d], .int .i64 P] w (fun e w' => e = .returned (.bool true) ∧ Below w.heap.size w w') := by
  have HN := hide hh
  clear hh
  have hu_1 := hu.alloc (EV u v)
  have hv_1 := hv.alloc (EV u v)
  have ba_1 : Sv ((w).alloc (EV u v)) (w.heap.size) u v := by have h_ := Sv.new (w) u v; exact h_
  have F1 := (Below.refl w.heap.size w).alloc (Nat.le_refl _) (EV u v)
  go_enter Tryz.func3, Tryz.ntmps3
  have ba_u1 := ba_1.cell0
  have ba_v1 := ba_1.cell1
  have ba_w1 := ba_1.cell2
  have ba_x1 := ba_1.cell3
  have ba_y1 := ba_1.cell4
  have ba_z1 := ba_1.cell5
  go_wp2_with fail
  refine (awake6 _).mono ?_
  rintro e w2 ⟨rfl, b2⟩
  have hu_2 := hu_1.below b2
  have hv_2 := hv_1.below b2
  have ba_2 := ba_1.below b2 ba_1.lt
  have F2 := below_then F1 (Nat.le_refl _) b2
  have ba_u2 := ba_2.cell0
  have ba_v2 := ba_2.cell1
  have ba_w2 := ba_2.cell2
  have ba_x2 := ba_2.cell3
  have ba_y2 := ba_2.cell4
  have ba_z2 := ba_2.cell5
  go_wp2_with fail
  refine (small_no _ _ xs ys xs' ys' _ hu_2 hv_2 HN.out).mono ?_
  rintro e w3 ⟨rfl, b3⟩
  have hu_3 := hu_2.below b3
  have hv_3 := hv_2.below b3
  have ba_3 := ba_2.below b3 ba_2.lt
  have F3 := below_then F2 (Nat.le_refl _) b3
  have ba_u3 := ba_3.cell0
  have ba_v3 := ba_3.cell1
  have ba_w3 := ba_3.cell2
  have ba_x3 := ba_3.cell3
  have ba_y3 := ba_3.cell4
  have ba_z3 := ba_3.cell5
  go_wp2
  go_ret
  exact ⟨rfl, F3⟩
theorem ro_mid (u v : Rv) (xs ys xs' ys' : List Nat) (P : Int) (w : World) (hu : Rx w u xs ys) (hv : Rx w v xs' ys') (ha : (Lu 2 u ∧ Lu 2 v ∧ (isC u.s xs ys && isC v.s xs' ys' && decide (rv u.s xs ys ≤ rv v.s xs' ys')) = true)) (h1 : 200 < P) (h2 : P ≤ 4096) : Calls Tryz.prog 3 #[.agg #[.bool u.s, .slice u.A u.n u.c, .slice u.B u.m u.d, .bool v.s, .slice v.A v.n v.c, .slice v.B v.m v.d], .int .i64 P] w (fun e w' => e = .returned (.bool true) ∧ Below w.heap.size w w') := by
  have d1 : decide (200 < P) = true := decide_eq_true h1
  have d2 : decide (P ≤ 4096) = true := decide_eq_true h2
  have HA := hide ha
  clear ha h1 h2
  have hu_1 := hu.alloc (EV u v)
  have hv_1 := hv.alloc (EV u v)
  have ba_1 : Sv ((w).alloc (EV u v)) (w.heap.size) u v := by have h_ := Sv.new (w) u v; exact h_
  have F1 := (Below.refl w.heap.size w).alloc (Nat.le_refl _) (EV u v)
  go_enter Tryz.func3, Tryz.ntmps3
  have ba_u1 := ba_1.cell0
  have ba_v1 := ba_1.cell1
  have ba_w1 := ba_1.cell2
  have ba_x1 := ba_1.cell3
  have ba_y1 := ba_1.cell4
  have ba_z1 := ba_1.cell5
  go_wp2_with fail
  refine (awake6 _).mono ?_
  rintro e w2 ⟨rfl, b2⟩
  have hu_2 := hu_1.below b2
  have hv_2 := hv_1.below b2
  have ba_2 := ba_1.below b2 ba_1.lt
  have F2 := below_then F1 (Nat.le_refl _) b2
  have ba_u2 := ba_2.cell0
  have ba_v2 := ba_2.cell1
  have ba_w2 := ba_2.cell2
  have ba_x2 := ba_2.cell3
  have ba_y2 := ba_2.cell4
  have ba_z2 := ba_2.cell5
  go_wp2_with fail
  refine (small_v _ _ xs ys xs' ys' true _ HA.out.2.2 hu_2 hv_2 HA.out.1 HA.out.2.1).mono ?_
  rintro e w3 ⟨rfl, b3⟩
  have hu_3 := hu_2.below b3
  have hv_3 := hv_2.below b3
  have ba_3 := ba_2.below b3 ba_2.lt
  have F3 := below_then F2 (Nat.le_refl _) b3
  have ba_u3 := ba_3.cell0
  have ba_v3 := ba_3.cell1
  have ba_w3 := ba_3.cell2
  have ba_x3 := ba_3.cell3
  have ba_y3 := ba_3.cell4
  have ba_z3 := ba_3.cell5
  go_wp2
  go_ret
  exact ⟨rfl, F3⟩
set_option maxHeartbeats 2000000 in
theorem ro_lo (u v : Rv) (xs ys xs' ys' : List Nat) (P : Int) (w : World) (hu : Rx w u xs ys) (hv : Rx w v xs' ys') (ha : (Lu 2 u ∧ Lu 2 v ∧ (isC u.s xs ys && isC v.s xs' ys' && decide (rv u.s xs ys ≤ rv v.s xs' ys')) = true)) (h1 : P < 1) : Calls Tryz.prog 3 #[.agg #[.bool u.s, .slice u.A u.n u.c, .slice u.B u.m u.d, .bool v.s, .slice v.A v.n v.c, .slice v.B v.m v.d], .int .i64 P] w (fun e w' => e = .returned (.bool true) ∧ Below w.heap.size w w') := by
  obtain ⟨p, q, ku, kv, hpq, sp2, sq2⟩ := vx_of hu hv ha.1 ha.2.1 ha.2.2
  have HA := hide ha
  have sp := sp2.m (show 2 ≤ 3 by decide)
  have sq := sq2.m (show 2 ≤ 3 by decide)
  have d1 : decide (200 < P) = false := decide_eq_false (by omega)
  have HP := hide (show P < 1 ∨ 4096 < P by omega)
  have l3 := (ku.len sp)
  have l4 := (kv.len sq)
  have z1 : Qs 2 (0 : Rat) := qs_lit2 (by decide +kernel)
  have k2 : 2 ≤ 4000 := by decide
  clear ha h1
  have hu_1 := hu.alloc (EV u v)
  have hv_1 := hv.alloc (EV u v)
  have ku_1 := ku.alloc (EV u v)
  have kv_1 := kv.alloc (EV u v)
  have ba_1 : Sv ((w).alloc (EV u v)) (w.heap.size) u v := by have h_ := Sv.new (w) u v; exact h_
  have F1 := (Below.refl w.heap.size w).alloc (Nat.le_refl _) (EV u v)
  go_enter Tryz.func3, Tryz.ntmps3
  have ba_u1 := ba_1.cell0
  have ba_v1 := ba_1.cell1
  have ba_w1 := ba_1.cell2
  have ba_x1 := ba_1.cell3
  have ba_y1 := ba_1.cell4
  have ba_z1 := ba_1.cell5
  go_wp2_with fail
  refine (awake6 _).mono ?_
  rintro e w2 ⟨rfl, b2⟩
  have hu_2 := hu_1.below b2
  have hv_2 := hv_1.below b2
  have ku_2 := ku_1.below b2
  have kv_2 := kv_1.below b2
  have ba_2 := ba_1.below b2 ba_1.lt
  have F2 := below_then F1 (Nat.le_refl _) b2
  have ba_u2 := ba_2.cell0
  have ba_v2 := ba_2.cell1
  have ba_w2 := ba_2.cell2
  have ba_x2 := ba_2.cell3
  have ba_y2 := ba_2.cell4
  have ba_z2 := ba_2.cell5
  go_wp2_with fail
  refine (small_v _ _ xs ys xs' ys' true _ HA.out.2.2 hu_2 hv_2 HA.out.1 HA.out.2.1).mono ?_
  rintro e w3 ⟨rfl, b3⟩
  have hu_3 := hu_2.below b3
  have hv_3 := hv_2.below b3
  have ku_3 := ku_2.below b3
  have kv_3 := kv_2.below b3
  have ba_3 := ba_2.below b3 ba_2.lt
  have F3 := below_then F2 (Nat.le_refl _) b3
  have ba_u3 := ba_3.cell0
  have ba_v3 := ba_3.cell1
  have ba_w3 := ba_3.cell2
  have ba_x3 := ba_3.cell3
  have ba_y3 := ba_3.cell4
  have ba_z3 := ba_3.cell5
  go_wp2_with fail
  refine (iround_no _ _ p q P _ HP.out ku_3 kv_3 hpq sp sq).mono ?_
  rintro e w4 ⟨u4, v4, rfl, i1, i2, b4⟩
  have ku_4 := ku_3.below b4
  have kv_4 := kv_3.below b4
  have ba_4 := ba_3.below b4 ba_3.lt
  have F4 := below_then F3 (Nat.le_refl _) b4
  have ba_u4 := ba_4.cell0
  have ba_v4 := ba_4.cell1
  have ba_w4 := ba_4.cell2
  have ba_x4 := ba_4.cell3
  have ba_y4 := ba_4.cell4
  have ba_z4 := ba_4.cell5
  have lt_bi_ba := ba_4.lt
  have ku_5 := ku_4.alloc (EV u4 v4)
  have kv_5 := kv_4.alloc (EV u4 v4)
  have i1_5 := i1.alloc (EV u4 v4)
  have i2_5 := i2.alloc (EV u4 v4)
  have ba_5 := ba_4.alloc (EV u4 v4)
  have bi_5 : Sv ((w4).alloc (EV u4 v4)) (w4.heap.size) u4 v4 := by have h_ := Sv.new (w4) u4 v4; exact h_
  have F5 := F4.alloc F4.size (EV u4 v4)
  have ba_u5 := ba_5.cell0
  have ba_v5 := ba_5.cell1
  have ba_w5 := ba_5.cell2
  have ba_x5 := ba_5.cell3
  have ba_y5 := ba_5.cell4
  have ba_z5 := ba_5.cell5
  have bi_u5 := bi_5.cell0
  have bi_v5 := bi_5.cell1
  have bi_w5 := bi_5.cell2
  have bi_x5 := bi_5.cell3
  have bi_y5 := bi_5.cell4
  have bi_z5 := bi_5.cell5
  go_wp2_with fail
  refine (round_no _ _ p q P _ ku_5.iu kv_5.iu sp sq l3 l4 HP.out).mono ?_
  rintro e w6 ⟨u6, v6, rfl, j1, j2, b6⟩
  have ku_6 := ku_5.below b6
  have kv_6 := kv_5.below b6
  have i1_6 := i1_5.below b6
  have i2_6 := i2_5.below b6
  have ba_6 := ba_5.below b6 ba_5.lt
  have bi_6 := bi_5.below b6 bi_5.lt
  have F6 := below_then F5 (Nat.le_refl _) b6
  have ba_u6 := ba_6.cell0
  have ba_v6 := ba_6.cell1
  have ba_w6 := ba_6.cell2
  have ba_x6 := ba_6.cell3
  have ba_y6 := ba_6.cell4
  have ba_z6 := ba_6.cell5
  have bi_u6 := bi_6.cell0
  have bi_v6 := bi_6.cell1
  have bi_w6 := bi_6.cell2
  have bi_x6 := bi_6.cell3
  have bi_y6 := bi_6.cell4
  have bi_z6 := bi_6.cell5
  have lt_bj_ba := ba_6.lt
  have lt_bj_bi := bi_6.lt
  have ku_7 := ku_6.alloc (EV u6 v6)
  have kv_7 := kv_6.alloc (EV u6 v6)
  have i1_7 := i1_6.alloc (EV u6 v6)
  have i2_7 := i2_6.alloc (EV u6 v6)
  have j1_7 := j1.alloc (EV u6 v6)
  have j2_7 := j2.alloc (EV u6 v6)
  have ba_7 := ba_6.alloc (EV u6 v6)
  have bi_7 := bi_6.alloc (EV u6 v6)
  have bj_7 : Sv ((w6).alloc (EV u6 v6)) (w6.heap.size) u6 v6 := by have h_ := Sv.new (w6) u6 v6; exact h_
  have F7 := F6.alloc F6.size (EV u6 v6)
  have ba_u7 := ba_7.cell0
  have ba_v7 := ba_7.cell1
  have ba_w7 := ba_7.cell2
  have ba_x7 := ba_7.cell3
  have ba_y7 := ba_7.cell4
  have ba_z7 := ba_7.cell5
  have bi_u7 := bi_7.cell0
  have bi_v7 := bi_7.cell1
  have bi_w7 := bi_7.cell2
  have bi_x7 := bi_7.cell3
  have bi_y7 := bi_7.cell4
  have bi_z7 := bi_7.cell5
  have bj_u7 := bj_7.cell0
  have bj_v7 := bj_7.cell1
  have bj_w7 := bj_7.cell2
  have bj_x7 := bj_7.cell3
  have bj_y7 := bj_7.cell4
  have bj_z7 := bj_7.cell5
  go_wp2_with fail
  refine (same_iv _ _ _ _ 0 0 _ i1_7 i2_7 j1_7 j2_7 ((i1_7.len z1).mono k2) ((i2_7.len z1).mono k2)).mono ?_
  rintro e w8 ⟨rfl, b8⟩
  have i1_8 := i1_7.below b8
  have i2_8 := i2_7.below b8
  have j1_8 := j1_7.below b8
  have j2_8 := j2_7.below b8
  have ba_8 := ba_7.below b8 ba_7.lt
  have bi_8 := bi_7.below b8 bi_7.lt
  have bj_8 := bj_7.below b8 bj_7.lt
  have F8 := below_then F7 (Nat.le_refl _) b8
  have ba_u8 := ba_8.cell0
  have ba_v8 := ba_8.cell1
  have ba_w8 := ba_8.cell2
  have ba_x8 := ba_8.cell3
  have ba_y8 := ba_8.cell4
  have ba_z8 := ba_8.cell5
  have bi_u8 := bi_8.cell0
  have bi_v8 := bi_8.cell1
  have bi_w8 := bi_8.cell2
  have bi_x8 := bi_8.cell3
  have bi_y8 := bi_8.cell4
  have bi_z8 := bi_8.cell5
  have bj_u8 := bj_8.cell0
  have bj_v8 := bj_8.cell1
  have bj_w8 := bj_8.cell2
  have bj_x8 := bj_8.cell3
  have bj_y8 := bj_8.cell4
  have bj_z8 := bj_8.cell5
  go_wp2
  go_ret
  exact ⟨rfl, F8⟩
set_option maxHeartbeats 2000000 in
theorem ro_hi (u v : Rv) (xs ys xs' ys' : List Nat) (P : Int) (w : World) (hu : Rx w u xs ys) (hv : Rx w v xs' ys') (ha : (Lu 2 u ∧ Lu 2 v ∧ (isC u.s xs ys && isC v.s xs' ys' && decide (rv u.s xs ys ≤ rv v.s xs' ys')) = true)) (h1 : 4096 < P) : Calls Tryz.prog 3 #[.agg #[.bool u.s, .slice u.A u.n u.c, .slice u.B u.m u.d, .bool v.s, .slice v.A v.n v.c, .slice v.B v.m v.d], .int .i64 P] w (fun e w' => e = .returned (.bool true) ∧ Below w.heap.size w w') := by
  obtain ⟨p, q, ku, kv, hpq, sp2, sq2⟩ := vx_of hu hv ha.1 ha.2.1 ha.2.2
  have HA := hide ha
  have sp := sp2.m (show 2 ≤ 3 by decide)
  have sq := sq2.m (show 2 ≤ 3 by decide)
  have d1 : decide (200 < P) = true := decide_eq_true (by omega)
  have d2 : decide (P ≤ 4096) = false := decide_eq_false (by omega)
  have HP := hide (show P < 1 ∨ 4096 < P by omega)
  have l3 := (ku.len sp)
  have l4 := (kv.len sq)
  have z1 : Qs 2 (0 : Rat) := qs_lit2 (by decide +kernel)
  have k2 : 2 ≤ 4000 := by decide
  clear ha h1
  have hu_1 := hu.alloc (EV u v)
  have hv_1 := hv.alloc (EV u v)
  have ku_1 := ku.alloc (EV u v)
  have kv_1 := kv.alloc (EV u v)
  have ba_1 : Sv ((w).alloc (EV u v)) (w.heap.size) u v := by have h_ := Sv.new (w) u v; exact h_
  have F1 := (Below.refl w.heap.size w).alloc (Nat.le_refl _) (EV u v)
  go_enter Tryz.func3, Tryz.ntmps3
  have ba_u1 := ba_1.cell0
  have ba_v1 := ba_1.cell1
  have ba_w1 := ba_1.cell2
  have ba_x1 := ba_1.cell3
  have ba_y1 := ba_1.cell4
  have ba_z1 := ba_1.cell5
  go_wp2_with fail
  refine (awake6 _).mono ?_
  rintro e w2 ⟨rfl, b2⟩
  have hu_2 := hu_1.below b2
  have hv_2 := hv_1.below b2
  have ku_2 := ku_1.below b2
  have kv_2 := kv_1.below b2
  have ba_2 := ba_1.below b2 ba_1.lt
  have F2 := below_then F1 (Nat.le_refl _) b2
  have ba_u2 := ba_2.cell0
  have ba_v2 := ba_2.cell1
  have ba_w2 := ba_2.cell2
  have ba_x2 := ba_2.cell3
  have ba_y2 := ba_2.cell4
  have ba_z2 := ba_2.cell5
  go_wp2_with fail
  refine (small_v _ _ xs ys xs' ys' true _ HA.out.2.2 hu_2 hv_2 HA.out.1 HA.out.2.1).mono ?_
  rintro e w3 ⟨rfl, b3⟩
  have hu_3 := hu_2.below b3
  have hv_3 := hv_2.below b3
  have ku_3 := ku_2.below b3
  have kv_3 := kv_2.below b3
  have ba_3 := ba_2.below b3 ba_2.lt
  have F3 := below_then F2 (Nat.le_refl _) b3
  have ba_u3 := ba_3.cell0
  have ba_v3 := ba_3.cell1
  have ba_w3 := ba_3.cell2
  have ba_x3 := ba_3.cell3
  have ba_y3 := ba_3.cell4
  have ba_z3 := ba_3.cell5
  go_wp2_with fail
  refine (iround_no _ _ p q P _ HP.out ku_3 kv_3 hpq sp sq).mono ?_
  rintro e w4 ⟨u4, v4, rfl, i1, i2, b4⟩
  have ku_4 := ku_3.below b4
  have kv_4 := kv_3.below b4
  have ba_4 := ba_3.below b4 ba_3.lt
  have F4 := below_then F3 (Nat.le_refl _) b4
  have ba_u4 := ba_4.cell0
  have ba_v4 := ba_4.cell1
  have ba_w4 := ba_4.cell2
  have ba_x4 := ba_4.cell3
  have ba_y4 := ba_4.cell4
  have ba_z4 := ba_4.cell5
  have lt_bi_ba := ba_4.lt
  have ku_5 := ku_4.alloc (EV u4 v4)
  have kv_5 := kv_4.alloc (EV u4 v4)
  have i1_5 := i1.alloc (EV u4 v4)
  have i2_5 := i2.alloc (EV u4 v4)
  have ba_5 := ba_4.alloc (EV u4 v4)
  have bi_5 : Sv ((w4).alloc (EV u4 v4)) (w4.heap.size) u4 v4 := by have h_ := Sv.new (w4) u4 v4; exact h_
  have F5 := F4.alloc F4.size (EV u4 v4)
  have ba_u5 := ba_5.cell0
  have ba_v5 := ba_5.cell1
  have ba_w5 := ba_5.cell2
  have ba_x5 := ba_5.cell3
  have ba_y5 := ba_5.cell4
  have ba_z5 := ba_5.cell5
  have bi_u5 := bi_5.cell0
  have bi_v5 := bi_5.cell1
  have bi_w5 := bi_5.cell2
  have bi_x5 := bi_5.cell3
  have bi_y5 := bi_5.cell4
  have bi_z5 := bi_5.cell5
  go_wp2_with fail
  refine (round_no _ _ p q P _ ku_5.iu kv_5.iu sp sq l3 l4 HP.out).mono ?_
  rintro e w6 ⟨u6, v6, rfl, j1, j2, b6⟩
  have ku_6 := ku_5.below b6
  have kv_6 := kv_5.below b6
  have i1_6 := i1_5.below b6
  have i2_6 := i2_5.below b6
  have ba_6 := ba_5.below b6 ba_5.lt
  have bi_6 := bi_5.below b6 bi_5.lt
  have F6 := below_then F5 (Nat.le_refl _) b6
  have ba_u6 := ba_6.cell0
  have ba_v6 := ba_6.cell1
  have ba_w6 := ba_6.cell2
  have ba_x6 := ba_6.cell3
  have ba_y6 := ba_6.cell4
  have ba_z6 := ba_6.cell5
  have bi_u6 := bi_6.cell0
  have bi_v6 := bi_6.cell1
  have bi_w6 := bi_6.cell2
  have bi_x6 := bi_6.cell3
  have bi_y6 := bi_6.cell4
  have bi_z6 := bi_6.cell5
  have lt_bj_ba := ba_6.lt
  have lt_bj_bi := bi_6.lt
  have ku_7 := ku_6.alloc (EV u6 v6)
  have kv_7 := kv_6.alloc (EV u6 v6)
  have i1_7 := i1_6.alloc (EV u6 v6)
  have i2_7 := i2_6.alloc (EV u6 v6)
  have j1_7 := j1.alloc (EV u6 v6)
  have j2_7 := j2.alloc (EV u6 v6)
  have ba_7 := ba_6.alloc (EV u6 v6)
  have bi_7 := bi_6.alloc (EV u6 v6)
  have bj_7 : Sv ((w6).alloc (EV u6 v6)) (w6.heap.size) u6 v6 := by have h_ := Sv.new (w6) u6 v6; exact h_
  have F7 := F6.alloc F6.size (EV u6 v6)
  have ba_u7 := ba_7.cell0
  have ba_v7 := ba_7.cell1
  have ba_w7 := ba_7.cell2
  have ba_x7 := ba_7.cell3
  have ba_y7 := ba_7.cell4
  have ba_z7 := ba_7.cell5
  have bi_u7 := bi_7.cell0
  have bi_v7 := bi_7.cell1
  have bi_w7 := bi_7.cell2
  have bi_x7 := bi_7.cell3
  have bi_y7 := bi_7.cell4
  have bi_z7 := bi_7.cell5
  have bj_u7 := bj_7.cell0
  have bj_v7 := bj_7.cell1
  have bj_w7 := bj_7.cell2
  have bj_x7 := bj_7.cell3
  have bj_y7 := bj_7.cell4
  have bj_z7 := bj_7.cell5
  go_wp2_with fail
  refine (same_iv _ _ _ _ 0 0 _ i1_7 i2_7 j1_7 j2_7 ((i1_7.len z1).mono k2) ((i2_7.len z1).mono k2)).mono ?_
  rintro e w8 ⟨rfl, b8⟩
  have i1_8 := i1_7.below b8
  have i2_8 := i2_7.below b8
  have j1_8 := j1_7.below b8
  have j2_8 := j2_7.below b8
  have ba_8 := ba_7.below b8 ba_7.lt
  have bi_8 := bi_7.below b8 bi_7.lt
  have bj_8 := bj_7.below b8 bj_7.lt
  have F8 := below_then F7 (Nat.le_refl _) b8
  have ba_u8 := ba_8.cell0
  have ba_v8 := ba_8.cell1
  have ba_w8 := ba_8.cell2
  have ba_x8 := ba_8.cell3
  have ba_y8 := ba_8.cell4
  have ba_z8 := ba_8.cell5
  have bi_u8 := bi_8.cell0
  have bi_v8 := bi_8.cell1
  have bi_w8 := bi_8.cell2
  have bi_x8 := bi_8.cell3
  have bi_y8 := bi_8.cell4
  have bi_z8 := bi_8.cell5
  have bj_u8 := bj_8.cell0
  have bj_v8 := bj_8.cell1
  have bj_w8 := bj_8.cell2
  have bj_x8 := bj_8.cell3
  have bj_y8 := bj_8.cell4
  have bj_z8 := bj_8.cell5
  go_wp2
  go_ret
  exact ⟨rfl, F8⟩
set_option maxHeartbeats 2000000 in
theorem ro_yes (u v : Rv) (xs ys xs' ys' : List Nat) (P : Int) (w : World) (hu : Rx w u xs ys) (hv : Rx w v xs' ys') (ha : (Lu 2 u ∧ Lu 2 v ∧ (isC u.s xs ys && isC v.s xs' ys' && decide (rv u.s xs ys ≤ rv v.s xs' ys')) = true)) (h1 : 1 ≤ P) (h2 : P ≤ 200) (T : Tb w) : Calls Tryz.prog 3 #[.agg #[.bool u.s, .slice u.A u.n u.c, .slice u.B u.m u.d, .bool v.s, .slice v.A v.n v.c, .slice v.B v.m v.d], .int .i64 P] w (fun e w' => e = .returned (.bool true) ∧ Below w.heap.size w w') := by
  obtain ⟨p, q, ku, kv, hpq, sp2, sq2⟩ := vx_of hu hv ha.1 ha.2.1 ha.2.2
  have HA := hide ha
  have sp := sp2.m (show 2 ≤ 3 by decide)
  have sq := sq2.m (show 2 ≤ 3 by decide)
  have d1 : decide (200 < P) = false := decide_eq_false (by omega)
  obtain ⟨k, hP⟩ : ∃ k : Nat, P = (k : Int) := ⟨P.toNat, by omega⟩
  have hk : 1 ≤ k ∧ k ≤ 200 := by omega
  have s1 : Qs 18 (tq p k false) := tq_qs6 false sp hk.1 hk.2
  have s2 : Qs 18 (tq q k true) := tq_qs6 true sq hk.1 hk.2
  have i1_ := (tq_dn p hk.1).2.1
  have i2_ := (tq_up q hk.1).2.1
  obtain ⟨y, hy⟩ : ∃ y, tq p k false = y := ⟨_, rfl⟩
  obtain ⟨z, hz⟩ : ∃ z, tq q k true = z := ⟨_, rfl⟩
  rw [hy] at s1 i1_
  rw [hz] at s2 i2_
  have HY := hide hy
  have HZ := hide hz
  have HP := hide (And.intro hP hk)
  have HI := hide (show (decide (y ≤ p) && decide (q ≤ z)) = true by rw [decide_eq_true i1_, decide_eq_true i2_]; rfl)
  have hyz : y ≤ z := Rat.le_trans i1_ (Rat.le_trans hpq i2_)
  have l3 := (ku.len sp)
  have l4 := (kv.len sq)
  have k2 : 18 ≤ 4000 := by decide
  have p1 := sp.m (show 3 ≤ 100 by decide)
  have p2_ := sq.m (show 3 ≤ 100 by decide)
  have p3 := s1.m (show 18 ≤ 100 by decide)
  have p4 := s2.m (show 18 ≤ 100 by decide)
  clear ha h1 h2 hy hz hP hk i1_ i2_
  have hu_1 := hu.alloc (EV u v)
  have hv_1 := hv.alloc (EV u v)
  have ku_1 := ku.alloc (EV u v)
  have kv_1 := kv.alloc (EV u v)
  have T_1 := T.alloc (EV u v)
  have ba_1 : Sv ((w).alloc (EV u v)) (w.heap.size) u v := by have h_ := Sv.new (w) u v; exact h_
  have F1 := (Below.refl w.heap.size w).alloc (Nat.le_refl _) (EV u v)
  go_enter Tryz.func3, Tryz.ntmps3
  have ba_u1 := ba_1.cell0
  have ba_v1 := ba_1.cell1
  have ba_w1 := ba_1.cell2
  have ba_x1 := ba_1.cell3
  have ba_y1 := ba_1.cell4
  have ba_z1 := ba_1.cell5
  go_wp2_with fail
  refine (awake6 _).mono ?_
  rintro e w2 ⟨rfl, b2⟩
  have hu_2 := hu_1.below b2
  have hv_2 := hv_1.below b2
  have ku_2 := ku_1.below b2
  have kv_2 := kv_1.below b2
  have T_2 := T_1.below b2
  have ba_2 := ba_1.below b2 ba_1.lt
  have F2 := below_then F1 (Nat.le_refl _) b2
  have ba_u2 := ba_2.cell0
  have ba_v2 := ba_2.cell1
  have ba_w2 := ba_2.cell2
  have ba_x2 := ba_2.cell3
  have ba_y2 := ba_2.cell4
  have ba_z2 := ba_2.cell5
  go_wp2_with fail
  refine (small_v _ _ xs ys xs' ys' true _ HA.out.2.2 hu_2 hv_2 HA.out.1 HA.out.2.1).mono ?_
  rintro e w3 ⟨rfl, b3⟩
  have hu_3 := hu_2.below b3
  have hv_3 := hv_2.below b3
  have ku_3 := ku_2.below b3
  have kv_3 := kv_2.below b3
  have T_3 := T_2.below b3
  have ba_3 := ba_2.below b3 ba_2.lt
  have F3 := below_then F2 (Nat.le_refl _) b3
  have ba_u3 := ba_3.cell0
  have ba_v3 := ba_3.cell1
  have ba_w3 := ba_3.cell2
  have ba_x3 := ba_3.cell3
  have ba_y3 := ba_3.cell4
  have ba_z3 := ba_3.cell5
  go_wp2_with fail
  refine (iround_e _ _ p q y z P k _ HY.out HZ.out HP.out.1 HP.out.2 ku_3 kv_3 hpq sp sq T_3).mono ?_
  rintro e w4 ⟨u4, v4, rfl, i1, i2, b4⟩
  have ku_4 := ku_3.below b4
  have kv_4 := kv_3.below b4
  have T_4 := T_3.below b4
  have ba_4 := ba_3.below b4 ba_3.lt
  have F4 := below_then F3 (Nat.le_refl _) b4
  have ba_u4 := ba_4.cell0
  have ba_v4 := ba_4.cell1
  have ba_w4 := ba_4.cell2
  have ba_x4 := ba_4.cell3
  have ba_y4 := ba_4.cell4
  have ba_z4 := ba_4.cell5
  have lt_bi_ba := ba_4.lt
  have ku_5 := ku_4.alloc (EV u4 v4)
  have kv_5 := kv_4.alloc (EV u4 v4)
  have T_5 := T_4.alloc (EV u4 v4)
  have i1_5 := i1.alloc (EV u4 v4)
  have i2_5 := i2.alloc (EV u4 v4)
  have ba_5 := ba_4.alloc (EV u4 v4)
  have bi_5 : Sv ((w4).alloc (EV u4 v4)) (w4.heap.size) u4 v4 := by have h_ := Sv.new (w4) u4 v4; exact h_
  have F5 := F4.alloc F4.size (EV u4 v4)
  have ba_u5 := ba_5.cell0
  have ba_v5 := ba_5.cell1
  have ba_w5 := ba_5.cell2
  have ba_x5 := ba_5.cell3
  have ba_y5 := ba_5.cell4
  have ba_z5 := ba_5.cell5
  have bi_u5 := bi_5.cell0
  have bi_v5 := bi_5.cell1
  have bi_w5 := bi_5.cell2
  have bi_x5 := bi_5.cell3
  have bi_y5 := bi_5.cell4
  have bi_z5 := bi_5.cell5
  go_wp2_with fail
  refine (rround_e _ _ p q y z P k _ HY.out HZ.out ku_5.iu kv_5.iu sp sq l3 l4 HP.out.1 HP.out.2).mono ?_
  rintro e w6 ⟨u6, v6, rfl, j1, j2, b6⟩
  have ku_6 := ku_5.below b6
  have kv_6 := kv_5.below b6
  have i1_6 := i1_5.below b6
  have i2_6 := i2_5.below b6
  have ba_6 := ba_5.below b6 ba_5.lt
  have bi_6 := bi_5.below b6 bi_5.lt
  have F6 := below_then F5 (Nat.le_refl _) b6
  have ba_u6 := ba_6.cell0
  have ba_v6 := ba_6.cell1
  have ba_w6 := ba_6.cell2
  have ba_x6 := ba_6.cell3
  have ba_y6 := ba_6.cell4
  have ba_z6 := ba_6.cell5
  have bi_u6 := bi_6.cell0
  have bi_v6 := bi_6.cell1
  have bi_w6 := bi_6.cell2
  have bi_x6 := bi_6.cell3
  have bi_y6 := bi_6.cell4
  have bi_z6 := bi_6.cell5
  have lt_bj_ba := ba_6.lt
  have lt_bj_bi := bi_6.lt
  have ku_7 := ku_6.alloc (EV u6 v6)
  have kv_7 := kv_6.alloc (EV u6 v6)
  have i1_7 := i1_6.alloc (EV u6 v6)
  have i2_7 := i2_6.alloc (EV u6 v6)
  have j1_7 := j1.alloc (EV u6 v6)
  have j2_7 := j2.alloc (EV u6 v6)
  have ba_7 := ba_6.alloc (EV u6 v6)
  have bi_7 := bi_6.alloc (EV u6 v6)
  have bj_7 : Sv ((w6).alloc (EV u6 v6)) (w6.heap.size) u6 v6 := by have h_ := Sv.new (w6) u6 v6; exact h_
  have F7 := F6.alloc F6.size (EV u6 v6)
  have ba_u7 := ba_7.cell0
  have ba_v7 := ba_7.cell1
  have ba_w7 := ba_7.cell2
  have ba_x7 := ba_7.cell3
  have ba_y7 := ba_7.cell4
  have ba_z7 := ba_7.cell5
  have bi_u7 := bi_7.cell0
  have bi_v7 := bi_7.cell1
  have bi_w7 := bi_7.cell2
  have bi_x7 := bi_7.cell3
  have bi_y7 := bi_7.cell4
  have bi_z7 := bi_7.cell5
  have bj_u7 := bj_7.cell0
  have bj_v7 := bj_7.cell1
  have bj_w7 := bj_7.cell2
  have bj_x7 := bj_7.cell3
  have bj_y7 := bj_7.cell4
  have bj_z7 := bj_7.cell5
  go_wp2_with fail
  refine (same_iv _ _ _ _ y z _ i1_7 i2_7 j1_7 j2_7 ((i1_7.len s1).mono k2) ((i2_7.len s2).mono k2)).mono ?_
  rintro e w8 ⟨rfl, b8⟩
  have ku_8 := ku_7.below b8
  have kv_8 := kv_7.below b8
  have i1_8 := i1_7.below b8
  have i2_8 := i2_7.below b8
  have j1_8 := j1_7.below b8
  have j2_8 := j2_7.below b8
  have ba_8 := ba_7.below b8 ba_7.lt
  have bi_8 := bi_7.below b8 bi_7.lt
  have bj_8 := bj_7.below b8 bj_7.lt
  have F8 := below_then F7 (Nat.le_refl _) b8
  have ba_u8 := ba_8.cell0
  have ba_v8 := ba_8.cell1
  have ba_w8 := ba_8.cell2
  have ba_x8 := ba_8.cell3
  have ba_y8 := ba_8.cell4
  have ba_z8 := ba_8.cell5
  have bi_u8 := bi_8.cell0
  have bi_v8 := bi_8.cell1
  have bi_w8 := bi_8.cell2
  have bi_x8 := bi_8.cell3
  have bi_y8 := bi_8.cell4
  have bi_z8 := bi_8.cell5
  have bj_u8 := bj_8.cell0
  have bj_v8 := bj_8.cell1
  have bj_w8 := bj_8.cell2
  have bj_x8 := bj_8.cell3
  have bj_y8 := bj_8.cell4
  have bj_z8 := bj_8.cell5
  go_wp2_with fail
  refine (iwithin_iv _ _ _ _ p q y z true _ HI.out ku_8 kv_8 i1_8 i2_8 hpq hyz p1 p2_ p3 p4).mono ?_
  rintro e w9 ⟨rfl, b9⟩
  have ku_9 := ku_8.below b9
  have kv_9 := kv_8.below b9
  have i1_9 := i1_8.below b9
  have i2_9 := i2_8.below b9
  have ba_9 := ba_8.below b9 ba_8.lt
  have bi_9 := bi_8.below b9 bi_8.lt
  have F9 := below_then F8 (Nat.le_refl _) b9
  have ba_u9 := ba_9.cell0
  have ba_v9 := ba_9.cell1
  have ba_w9 := ba_9.cell2
  have ba_x9 := ba_9.cell3
  have ba_y9 := ba_9.cell4
  have ba_z9 := ba_9.cell5
  have bi_u9 := bi_9.cell0
  have bi_v9 := bi_9.cell1
  have bi_w9 := bi_9.cell2
  have bi_x9 := bi_9.cell3
  have bi_y9 := bi_9.cell4
  have bi_z9 := bi_9.cell5
  go_wp2
  go_ret
  exact ⟨rfl, F9⟩
theorem law_iround (u v : Rv) (xs ys xs' ys' : List Nat) (P : Int) (w : World) (hu : Rx w u xs ys) (hv : Rx w v xs' ys') (T : Tb w) : Calls Tryz.prog 3 #[.agg #[.bool u.s, .slice u.A u.n u.c, .slice u.B u.m u.d, .bool v.s, .slice v.A v.n v.c, .slice v.B v.m v.d], .int .i64 P] w (fun e w' => e = .returned (.bool true) ∧ Below w.heap.size w w') := by
  by_cases ha : (Lu 2 u ∧ Lu 2 v ∧ (isC u.s xs ys && isC v.s xs' ys' && decide (rv u.s xs ys ≤ rv v.s xs' ys')) = true)
  · by_cases h1 : P < 1
    · exact ro_lo u v xs ys xs' ys' P w hu hv ha h1
    · by_cases h2 : P ≤ 200
      · exact ro_yes u v xs ys xs' ys' P w hu hv ha (by omega) h2 T
      · by_cases h3 : P ≤ 4096
        · exact ro_mid u v xs ys xs' ys' P w hu hv ha (by omega) h3
        · exact ro_hi u v xs ys xs' ys' P w hu hv ha (by omega)
  · exact ro_no u v xs ys xs' ys' P w hu hv ha
end Go.Proofs.YtnddhohjfjlaiaaGreatDoor
