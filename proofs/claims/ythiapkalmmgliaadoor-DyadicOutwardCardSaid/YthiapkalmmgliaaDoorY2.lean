/-
  The walk of DyadicValid.
-/
import Derived.Test.YthiapkalmmgliaaDoorY1
namespace Go.Proofs.YthiapkalmmgliaaDoor
open Go.RowKit
set_option linter.unusedVariables false
set_option linter.unusedSimpArgs false

/-- The size of a dyadic number of few limbs and a small exponent. -/
theorem qs_dy {q : Rat} {K : Nat} (hi : Isd q) (hX : dm q < pw K) (hk : 1 ≤ K) (he : -200 ≤ de q ∧ de q ≤ 200) : Qs (K + 7) q := by
  have h := dvl_of hi
  have h7 : (2 : Nat) ^ 200 < pw 7 := two_lt_pw (by decide)
  obtain ⟨I, hI⟩ : ∃ I : Int, (if decide (q < 0) then -(dm q : Int) else (dm q : Int) : Int) = I := ⟨_, rfl⟩
  have hIa : I.natAbs = dm q := by rw [← hI, sgn_abs]
  have hpos : 0 < pw K := pw_pos K
  unfold dvl at h
  rw [hI] at h
  rcases Int.le_total 0 (de q) with h0 | h0
  · obtain ⟨k, hk⟩ : ∃ k : Nat, de q = (k : Int) := ⟨(de q).toNat, by omega⟩
    rw [hk, int_up] at h
    have h2 : 2 ^ k ≤ 2 ^ 200 := Nat.pow_le_pow_right (by decide) (by omega)
    have h5 : q.num = I * ((2 ^ k : Nat) : Int) := by rw [← h]; rfl
    have h3 : q.num.natAbs = dm q * 2 ^ k := by rw [h5, Int.natAbs_mul, hIa, Int.natAbs_natCast]
    have h4 : q.den = 1 := by rw [← h]; rfl
    refine ⟨?_, ?_⟩
    · rw [h3]
      exact mul_pw hX (Nat.lt_of_le_of_lt h2 h7)
    · rw [h4]
      exact Nat.lt_of_lt_of_le (by decide : 1 < pw 1) (pw_mono (by omega))
  · obtain ⟨k, hk⟩ : ∃ k : Nat, de q = -(k : Int) := ⟨(-de q).toNat, by omega⟩
    rw [hk, int_p2] at h
    have h2 : 2 ^ k ≤ 2 ^ 200 := Nat.pow_le_pow_right (by decide) (by omega)
    have h3 := mk_size I (2 ^ k) (by have := Nat.two_pow_pos k; omega)
    rw [h, hIa] at h3
    refine ⟨Nat.lt_of_le_of_lt h3.1 (Nat.lt_of_lt_of_le hX (pw_mono (by omega))), Nat.lt_of_le_of_lt h3.2 (Nat.lt_of_le_of_lt h2 (Nat.lt_of_lt_of_le h7 (pw_mono (by omega))))⟩
theorem dv_n (s : Bool) (A : Option Addr) (n c : Nat) (e : Int) (xs : List Nat) (w : World) (hx : Rd w A n c xs) (hn : ¬ n ≤ 4) (T : Tb w) : Calls Tryd.prog 4 #[.agg #[.bool s, .slice A n c, .int .i64 e]] w (fun e w' => e = .returned (.bool true) ∧ Below w.heap.size w w') := by
  have d1 : decide (4 < (n : Int)) = true := by simp; omega
  clear hx
  have T_1 := T.alloc (EY s A n c e)
  have bx_1 : Sy ((w).alloc (EY s A n c e)) (w.heap.size) (.bool s) (.slice A n c) (.int .i64 e) := by have h_ := Sy.new (w) (.bool s) (.slice A n c) (.int .i64 e); exact h_
  have F1 := (Below.refl w.heap.size w).alloc (Nat.le_refl _) (EY s A n c e)
  go_enter Tryd.func4, Tryd.ntmps4
  go_wp2_with fail
  refine (awake5 _ T_1).mono ?_
  rintro e w2 ⟨rfl, b2⟩
  have T_2 := T_1.below b2
  have bx_2 := bx_1.below b2 bx_1.lt
  have F2 := below_then F1 (Nat.le_refl _) b2
  have bx_u2 := bx_2.cell0
  have bx_v2 := bx_2.cell1
  have bx_w2 := bx_2.cell2
  go_wp2
  go_ret
  exact ⟨rfl, F2⟩
theorem dv_no (s : Bool) (A : Option Addr) (n c : Nat) (e : Int) (xs : List Nat) (w : World) (hx : Rd w A n c xs) (hn : n ≤ 4) (hh : ¬ (n ≤ 3 ∧ (-200 ≤ e ∧ e ≤ 200) ∧ vb s xs e = true)) (T : Tb w) : Calls Tryd.prog 4 #[.agg #[.bool s, .slice A n c, .int .i64 e]] w (fun e w' => e = .returned (.bool true) ∧ Below w.heap.size w w') := by
  have d1 : decide (4 < (n : Int)) = false := by simp; omega
  have n1 : n ≤ 1048576 := by omega
  have n100 : n ≤ 100 := by omega
  obtain ⟨r, hr⟩ : ∃ r, vb s xs e = r := ⟨_, rfl⟩
  have x1 : (r == r) = true := by simp
  have x2 : (r != r) = false := by simp
  have HN := hide hh
  clear hh
  have hx_1 := hx.alloc (EY s A n c e)
  have T_1 := T.alloc (EY s A n c e)
  have bx_1 : Sy ((w).alloc (EY s A n c e)) (w.heap.size) (.bool s) (.slice A n c) (.int .i64 e) := by have h_ := Sy.new (w) (.bool s) (.slice A n c) (.int .i64 e); exact h_
  have F1 := (Below.refl w.heap.size w).alloc (Nat.le_refl _) (EY s A n c e)
  go_enter Tryd.func4, Tryd.ntmps4
  go_wp2_with fail
  refine (awake5 _ T_1).mono ?_
  rintro e w2 ⟨rfl, b2⟩
  have hx_2 := hx_1.below b2
  have T_2 := T_1.below b2
  have bx_2 := bx_1.below b2 bx_1.lt
  have F2 := below_then F1 (Nat.le_refl _) b2
  have bx_u2 := bx_2.cell0
  have bx_v2 := bx_2.cell1
  have bx_w2 := bx_2.cell2
  go_wp2_with fail
  have hx_3 := hx_2.drew
  have T_3 := T_2.drew
  have bx_3 := bx_2.drew
  have F3 := F2.drew
  go_region_held3 (fun w' => w'.cell? ⟨w.heap.size, 0, none⟩ = some (.bool s) ∧ w'.cell? ⟨w.heap.size, 1, none⟩ = some (.slice A n c) ∧ w'.cell? ⟨w.heap.size, 2, none⟩ = some (.int .i64 e))
    (first
      | with_reducible exact ⟨bx_5.cell0, bx_5.cell1, bx_5.cell2⟩
      | with_reducible exact ⟨bx_4.cell0, bx_4.cell1, bx_4.cell2⟩
      | with_reducible exact ⟨bx_3.cell0, bx_3.cell1, bx_3.cell2⟩
      | fail)
    (first
      | (go_at_call 15; (with_reducible refine (yvalid_at _ _ _ _ _ xs r _ hr hx_3 n100).mono ?_); rintro e w4 ⟨rfl, b4⟩; have hx_4 := hx_3.below b4; have T_4 := T_3.below b4; have bx_4 := bx_3.below b4 bx_3.lt; have F4 := below_then F3 (Nat.le_refl _) b4)
      | (go_at_call 19; (with_reducible refine (ryvalid_at _ _ _ _ _ xs r _ hr hx_4 n1).mono ?_); rintro e w5 ⟨rfl, b5⟩; have hx_5 := hx_4.below b5; have T_5 := T_4.below b5; have bx_5 := bx_4.below b5 bx_4.lt; have F5 := below_then F4 (Nat.le_refl _) b5)
      | fail)
  have bx_u5 := bx_5.cell0
  have bx_v5 := bx_5.cell1
  have bx_w5 := bx_5.cell2
  go_wp2_with fail
  refine (small_no _ _ _ _ _ xs _ hx_5 HN.out).mono ?_
  rintro e w6 ⟨rfl, b6⟩
  have hx_6 := hx_5.below b6
  have T_6 := T_5.below b6
  have bx_6 := bx_5.below b6 bx_5.lt
  have F6 := below_then F5 (Nat.le_refl _) b6
  have bx_u6 := bx_6.cell0
  have bx_v6 := bx_6.cell1
  have bx_w6 := bx_6.cell2
  go_wp2
  go_ret
  exact ⟨rfl, F6⟩
theorem dv_yes (s : Bool) (A : Option Addr) (n c : Nat) (e : Int) (xs : List Nat) (w : World) (hx : Rd w A n c xs) (hn : n ≤ 4) (h3 : n ≤ 3) (he : -200 ≤ e ∧ e ≤ 200) (hv : vb s xs e = true) (T : Tb w) : Calls Tryd.prog 4 #[.agg #[.bool s, .slice A n c, .int .i64 e]] w (fun e w' => e = .returned (.bool true) ∧ Below w.heap.size w w') := by
  have d1 : decide (4 < (n : Int)) = false := by simp; omega
  have n1 : n ≤ 1048576 := by omega
  have n100 : n ≤ 100 := by omega
  obtain ⟨r, hr0⟩ : ∃ r, true = r := ⟨_, rfl⟩
  have hr : vb s xs e = r := hv.trans hr0
  have x1 : (r == r) = true := by simp
  have x2 : (r != r) = false := by simp
  obtain ⟨q, hq⟩ : ∃ q, dvl s (val xs) e = q := ⟨_, rfl⟩
  have h : Cy w s A n c e q := by rw [← hq]; exact (vb_cy hx hv).1
  have lX : dm q < pw 3 := by have := rd_lt h.1 h3; rwa [val_dg] at this
  have hd : -200 ≤ de q ∧ de q ≤ 200 := by rw [← h.2.2.1]; exact he
  have hs := qs_dy h.2.2.2 lX (by decide) hd
  have lN : dm (-q) < pw 3 := by rw [dm_neg]; exact lX
  have hs1 : q.num.natAbs < pw 10 := hs.1
  have hs2 : q.den < pw 10 := hs.2
  have HI := hide h.2.2.2
  have HE := hide he
  have HV := hide hv
  have k10 : 10 ≤ 16 := by omega
  have k101 : 10 ≤ 16384 := by omega
  have k3 : 3 ≤ 1048576 := by omega
  have k8 : n ≤ 8000 := by omega
  have HE3 := hide (show -256000 < e ∧ e < 256000 by omega)
  clear hq he hv hd hs hr0
  have hx_1 := hx.alloc (EY s A n c e)
  have h_1 := h.alloc (EY s A n c e)
  have T_1 := T.alloc (EY s A n c e)
  have bx_1 : Sy ((w).alloc (EY s A n c e)) (w.heap.size) (.bool s) (.slice A n c) (.int .i64 e) := by have h_ := Sy.new (w) (.bool s) (.slice A n c) (.int .i64 e); exact h_
  have F1 := (Below.refl w.heap.size w).alloc (Nat.le_refl _) (EY s A n c e)
  go_enter Tryd.func4, Tryd.ntmps4
  go_wp2_with fail
  refine (awake5 _ T_1).mono ?_
  rintro e w2 ⟨rfl, b2⟩
  have hx_2 := hx_1.below b2
  have h_2 := h_1.below b2
  have T_2 := T_1.below b2
  have bx_2 := bx_1.below b2 bx_1.lt
  have F2 := below_then F1 (Nat.le_refl _) b2
  have bx_u2 := bx_2.cell0
  have bx_v2 := bx_2.cell1
  have bx_w2 := bx_2.cell2
  go_wp2_with fail
  have hx_3 := hx_2.drew
  have h_3 := h_2.drew
  have T_3 := T_2.drew
  have bx_3 := bx_2.drew
  have F3 := F2.drew
  go_region_held3 (fun w' => w'.cell? ⟨w.heap.size, 0, none⟩ = some (.bool s) ∧ w'.cell? ⟨w.heap.size, 1, none⟩ = some (.slice A n c) ∧ w'.cell? ⟨w.heap.size, 2, none⟩ = some (.int .i64 e))
    (first
      | with_reducible exact ⟨bx_5.cell0, bx_5.cell1, bx_5.cell2⟩
      | with_reducible exact ⟨bx_4.cell0, bx_4.cell1, bx_4.cell2⟩
      | with_reducible exact ⟨bx_3.cell0, bx_3.cell1, bx_3.cell2⟩
      | fail)
    (first
      | (go_at_call 15; (with_reducible refine (yvalid_at _ _ _ _ _ xs r _ hr hx_3 n100).mono ?_); rintro e w4 ⟨rfl, b4⟩; have hx_4 := hx_3.below b4; have h_4 := h_3.below b4; have T_4 := T_3.below b4; have bx_4 := bx_3.below b4 bx_3.lt; have F4 := below_then F3 (Nat.le_refl _) b4)
      | (go_at_call 19; (with_reducible refine (ryvalid_at _ _ _ _ _ xs r _ hr hx_4 n1).mono ?_); rintro e w5 ⟨rfl, b5⟩; have hx_5 := hx_4.below b5; have h_5 := h_4.below b5; have T_5 := T_4.below b5; have bx_5 := bx_4.below b5 bx_4.lt; have F5 := below_then F4 (Nat.le_refl _) b5)
      | fail)
  have bx_u5 := bx_5.cell0
  have bx_v5 := bx_5.cell1
  have bx_w5 := bx_5.cell2
  go_wp2_with fail
  refine (small_v _ _ _ _ _ xs true _ hx_5 h3 HE.out HV.out).mono ?_
  rintro e w6 ⟨rfl, b6⟩
  have hx_6 := hx_5.below b6
  have h_6 := h_5.below b6
  have T_6 := T_5.below b6
  have bx_6 := bx_5.below b6 bx_5.lt
  have F6 := below_then F5 (Nat.le_refl _) b6
  have bx_u6 := bx_6.cell0
  have bx_v6 := bx_6.cell1
  have bx_w6 := bx_6.cell2
  go_wp2_with fail
  refine (yrat_q _ _ _ _ _ q _ h_6 h3 HE.out).mono ?_
  rintro e w7 ⟨s7, A7, n7, c7, B7, m7, d7, rfl, rr, b7⟩
  have h_7 := h_6.below b7
  have T_7 := T_6.below b7
  have bx_7 := bx_6.below b7 bx_6.lt
  have F7 := below_then F6 (Nat.le_refl _) b7
  have bx_u7 := bx_7.cell0
  have bx_v7 := bx_7.cell1
  have bx_w7 := bx_7.cell2
  have nr := Nat.le_trans (rr.ln hs1) k10
  have mr := Nat.le_trans (rr.ld hs2) k10
  go_wp2_with fail
  refine (yexact_q _ _ _ _ _ _ _ q _ rr.iq nr mr HI.out T_7).mono ?_
  rintro e w8 ⟨s8, A8, n8, c8, x8, rfl, yb, b8⟩
  have h_8 := h_7.below b8
  have T_8 := T_7.below b8
  have rr_8 := rr.below b8
  have bx_8 := bx_7.below b8 bx_7.lt
  have F8 := below_then F7 (Nat.le_refl _) b8
  have bx_u8 := bx_8.cell0
  have bx_v8 := bx_8.cell1
  have bx_w8 := bx_8.cell2
  have lt_bk_bx := bx_8.lt
  have h_9 := h_8.alloc (EY s8 A8 n8 c8 x8)
  have yb_9 := yb.alloc (EY s8 A8 n8 c8 x8)
  have bx_9 := bx_8.alloc (EY s8 A8 n8 c8 x8)
  have bk_9 : Sy ((w8).alloc (EY s8 A8 n8 c8 x8)) (w8.heap.size) (.bool s8) (.slice A8 n8 c8) (.int .i64 x8) := by have h_ := Sy.new (w8) (.bool s8) (.slice A8 n8 c8) (.int .i64 x8); exact h_
  have F9 := F8.alloc F8.size (EY s8 A8 n8 c8 x8)
  have bx_u9 := bx_9.cell0
  have bx_v9 := bx_9.cell1
  have bx_w9 := bx_9.cell2
  have bk_u9 := bk_9.cell0
  have bk_v9 := bk_9.cell1
  have bk_w9 := bk_9.cell2
  have nb := Nat.le_trans (yb_9.ln lX) k3
  go_wp2_with fail
  have h_10 := h_9.drew
  have yb_10 := yb_9.drew
  have bx_10 := bx_9.drew
  have bk_10 := bk_9.drew
  have F10 := F9.drew
  go_region_held3 (fun w' => w'.cell? ⟨w.heap.size, 0, none⟩ = some (.bool s) ∧ w'.cell? ⟨w.heap.size, 1, none⟩ = some (.slice A n c) ∧ w'.cell? ⟨w.heap.size, 2, none⟩ = some (.int .i64 e) ∧ w'.cell? ⟨w8.heap.size, 0, none⟩ = some (.bool s8) ∧ w'.cell? ⟨w8.heap.size, 1, none⟩ = some (.slice A8 n8 c8) ∧ w'.cell? ⟨w8.heap.size, 2, none⟩ = some (.int .i64 x8))
    (first
      | with_reducible exact ⟨bx_17.cell0, bx_17.cell1, bx_17.cell2, bk_17.cell0, bk_17.cell1, bk_17.cell2⟩
      | with_reducible exact ⟨bx_16.cell0, bx_16.cell1, bx_16.cell2, bk_16.cell0, bk_16.cell1, bk_16.cell2⟩
      | with_reducible exact ⟨bx_15.cell0, bx_15.cell1, bx_15.cell2, bk_15.cell0, bk_15.cell1, bk_15.cell2⟩
      | with_reducible exact ⟨bx_14.cell0, bx_14.cell1, bx_14.cell2, bk_14.cell0, bk_14.cell1, bk_14.cell2⟩
      | with_reducible exact ⟨bx_13.cell0, bx_13.cell1, bx_13.cell2, bk_13.cell0, bk_13.cell1, bk_13.cell2⟩
      | with_reducible exact ⟨bx_12.cell0, bx_12.cell1, bx_12.cell2, bk_12.cell0, bk_12.cell1, bk_12.cell2⟩
      | with_reducible exact ⟨bx_11.cell0, bx_11.cell1, bx_11.cell2, bk_11.cell0, bk_11.cell1, bk_11.cell2⟩
      | with_reducible exact ⟨bx_10.cell0, bx_10.cell1, bx_10.cell2, bk_10.cell0, bk_10.cell1, bk_10.cell2⟩
      | fail)
    (first
      | (go_at_call 21; (with_reducible refine (yneg_q _ _ _ _ _ q _ h_10 h3 HE.out).mono ?_); rintro e w11 ⟨s11, A11, n11, c11, x11, rfl, y1, b11⟩; have h_11 := h_10.below b11; have yb_11 := yb_10.below b11; have bx_11 := bx_10.below b11 bx_10.lt; have bk_11 := bk_10.below b11 bk_10.lt; have F11 := below_then F10 (Nat.le_refl _) b11)
      | (go_at_call 22; (with_reducible refine (ryneg _ _ _ _ _ q _ h_11).mono ?_); rintro e w12 ⟨s12, A12, n12, c12, x12, rfl, y2, b12⟩; have h_12 := h_11.below b12; have yb_12 := yb_11.below b12; have y1_12 := y1.below b12; have bx_12 := bx_11.below b12 bx_11.lt; have bk_12 := bk_11.below b12 bk_11.lt; have F12 := below_then F11 (Nat.le_refl _) b12)
      | (go_at_call 14; (with_reducible refine (rysame_q _ _ _ _ _ _ _ _ _ _ (-q) _ y1_12 y2 (Nat.le_trans (y1_12.ln lN) k3) (Nat.le_trans (y2.ln lN) k3)).mono ?_); rintro e w13 ⟨rfl, b13⟩; have h_13 := h_12.below b13; have yb_13 := yb_12.below b13; have y1_13 := y1_12.below b13; have y2_13 := y2.below b13; have bx_13 := bx_12.below b13 bx_12.lt; have bk_13 := bk_12.below b13 bk_12.lt; have F13 := below_then F12 (Nat.le_refl _) b13)
      | (go_at_call 17; (with_reducible refine (yrat_q _ _ _ _ _ q _ h_13 h3 HE.out).mono ?_); rintro e w14 ⟨s14, A14, n14, c14, B14, m14, d14, rfl, r1, b14⟩; have h_14 := h_13.below b14; have yb_14 := yb_13.below b14; have y1_14 := y1_13.below b14; have y2_14 := y2_13.below b14; have bx_14 := bx_13.below b14 bx_13.lt; have bk_14 := bk_13.below b14 bk_13.lt; have F14 := below_then F13 (Nat.le_refl _) b14)
      | (go_at_call 23; (with_reducible refine (ryrat _ _ _ _ _ q _ h_14 k8 HE3.out).mono ?_); rintro e w15 ⟨s15, A15, n15, c15, B15, m15, d15, rfl, r2, b15⟩; have h_15 := h_14.below b15; have yb_15 := yb_14.below b15; have y1_15 := y1_14.below b15; have y2_15 := y2_14.below b15; have r1_15 := r1.below b15; have bx_15 := bx_14.below b15 bx_14.lt; have bk_15 := bk_14.below b15 bk_14.lt; have F15 := below_then F14 (Nat.le_refl _) b15)
      | (go_at_call 16; (with_reducible refine (same_q _ _ _ _ _ _ _ _ _ _ _ _ _ _ q _ r1_15 r2 (Nat.le_trans (r1_15.ln hs1) k101) (Nat.le_trans (r1_15.ld hs2) k101)).mono ?_); rintro e w16 ⟨rfl, b16⟩; have h_16 := h_15.below b16; have yb_16 := yb_15.below b16; have y1_16 := y1_15.below b16; have y2_16 := y2_15.below b16; have r1_16 := r1_15.below b16; have r2_16 := r2.below b16; have bx_16 := bx_15.below b16 bx_15.lt; have bk_16 := bk_15.below b16 bk_15.lt; have F16 := below_then F15 (Nat.le_refl _) b16)
      | (go_at_call 14; (with_reducible refine (rysame_q _ _ _ _ _ _ _ _ _ _ q _ yb_16 h_16 nb n1).mono ?_); rintro e w17 ⟨rfl, b17⟩; have h_17 := h_16.below b17; have yb_17 := yb_16.below b17; have y1_17 := y1_16.below b17; have y2_17 := y2_16.below b17; have r1_17 := r1_16.below b17; have r2_17 := r2_16.below b17; have bx_17 := bx_16.below b17 bx_16.lt; have bk_17 := bk_16.below b17 bk_16.lt; have F17 := below_then F16 (Nat.le_refl _) b17)
      | fail)
  have bx_u17 := bx_17.cell0
  have bx_v17 := bx_17.cell1
  have bx_w17 := bx_17.cell2
  have bk_u17 := bk_17.cell0
  have bk_v17 := bk_17.cell1
  have bk_w17 := bk_17.cell2
  go_wp2
  go_ret
  exact ⟨rfl, F17⟩
theorem law_valid (s : Bool) (A : Option Addr) (n c : Nat) (e : Int) (xs : List Nat) (w : World) (hx : Rd w A n c xs) (T : Tb w) : Calls Tryd.prog 4 #[.agg #[.bool s, .slice A n c, .int .i64 e]] w (fun e w' => e = .returned (.bool true) ∧ Below w.heap.size w w') := by
  by_cases hn : n ≤ 4
  · by_cases hh : n ≤ 3 ∧ (-200 ≤ e ∧ e ≤ 200) ∧ vb s xs e = true
    · exact dv_yes s A n c e xs w hx hn hh.1 hh.2.1 hh.2.2 T
    · exact dv_no s A n c e xs w hx hn hh T
  · exact dv_n s A n c e xs w hx hn T
end Go.Proofs.YthiapkalmmgliaaDoor
