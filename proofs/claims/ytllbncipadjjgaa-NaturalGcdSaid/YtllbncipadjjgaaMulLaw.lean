/-
  The walk of NaturalMul.
-/
import Derived.Test.YtllbncipadjjgaaAddLaw
import Derived.Test.YtllbncipadjjgaaW22
namespace Go.Proofs.Ytllbncipadjjgaa
open Go.RowKit
set_option linter.unusedVariables false
set_option linter.unusedSimpArgs false

theorem mul_at (A B : Option Addr) (n m c d : Nat) (xs ys : List Nat) (w : World) (X Y Z : Nat) (hx : val xs = X) (hy : val ys = Y) (hz : X * Y = Z) (h : Rd w A n c xs) (h2 : Rd w B m d ys) (hn : n ≤ 1048576) (hm : m ≤ 1048576) :
    Calls Try.prog 32 #[.slice A n c, .slice B m d] w (Gives w (dg Z)) := by
  subst hx hy hz
  exact mul_calls A B n m c d xs ys w h h2 hn hm
theorem rmul_at (A B : Option Addr) (n m c d : Nat) (xs ys : List Nat) (w : World) (X Y Z : Nat) (hx : val xs = X) (hy : val ys = Y) (hz : X * Y = Z) (h : Rd w A n c xs) (h2 : Rd w B m d ys) (hn : n ≤ 1048576) (hm : m ≤ 1048576) :
    Calls Try.prog 33 #[.slice A n c, .slice B m d] w (Gives w (dg Z)) := by
  subst hx hy hz
  exact rmul_calls A B n m c d xs ys w h h2 hn hm
theorem mul_pw {x y j k : Nat} (hx : x < pw j) (hy : y < pw k) : x * y < pw (j + k) := by
  rw [pw_add]
  rcases Nat.eq_zero_or_pos y with h | h
  · rw [h, Nat.mul_zero]; exact Nat.mul_pos (pw_pos j) (pw_pos k)
  · exact Nat.lt_of_lt_of_le (Nat.mul_lt_mul_of_pos_right hx h) (Nat.mul_le_mul_left _ (Nat.le_of_lt hy))
theorem law_mul_long (A B C : Option Addr) (n m l c d f : Nat) (w : World) (hn : ¬ (n ≤ 8 ∧ m ≤ 8 ∧ l ≤ 8)) :
    Calls Try.prog 7 #[.slice A n c, .slice B m d, .slice C l f] w fun e w' => e = .returned (.bool true) ∧ Below w.heap.size w w' := by
  by_cases h1 : n ≤ 8
  · have d1 : decide ((8 : Int) < (n : Int)) = false := by simp; omega
    by_cases h2 : m ≤ 8
    · have d2 : decide ((8 : Int) < (m : Int)) = false := by simp; omega
      have d3 : decide ((8 : Int) < (l : Int)) = true := by simp; omega
      clear hn h1 h2
      go_enter Try.func7, Try.ntmps7
      go_wp2_with fail
      refine (awake_calls _).mono ?_
      rintro e w1 ⟨rfl, b1⟩
      go_wp2
      go_ret
      exact ⟨rfl, b1⟩
    · have d2 : decide ((8 : Int) < (m : Int)) = true := by simp; omega
      clear hn h1 h2
      go_enter Try.func7, Try.ntmps7
      go_wp2_with fail
      refine (awake_calls _).mono ?_
      rintro e w1 ⟨rfl, b1⟩
      go_wp2
      go_ret
      exact ⟨rfl, b1⟩
  · have d1 : decide ((8 : Int) < (n : Int)) = true := by simp; omega
    clear hn h1
    go_enter Try.func7, Try.ntmps7
    go_wp2_with fail
    refine (awake_calls _).mono ?_
    rintro e w1 ⟨rfl, b1⟩
    go_wp2
    go_ret
    exact ⟨rfl, b1⟩
set_option maxHeartbeats 1000000 in
theorem law_mul (A B C : Option Addr) (n m l c d f : Nat) (xs ys zs : List Nat) (w : World) (h : Rd w A n c xs) (k : Rd w B m d ys) (j : Rd w C l f zs) (hn : n ≤ 8) (hm : m ≤ 8) (hl : l ≤ 8) :
    Calls Try.prog 7 #[.slice A n c, .slice B m d, .slice C l f] w fun e w' => e = .returned (.bool true) ∧ Below w.heap.size w w' := by
  have d1 : decide ((8 : Int) < (n : Int)) = false := by simp; omega
  have d2 : decide ((8 : Int) < (m : Int)) = false := by simp; omega
  have d3 : decide ((8 : Int) < (l : Int)) = false := by simp; omega
  have lx := rd_lt h hn
  have ly := rd_lt k hm
  have lz := rd_lt j hl
  have l1 : (dg (val xs * val ys)).length ≤ 16 := dg_le (mul_pw lx ly)
  have l2 : (dg (val ys * val zs)).length ≤ 16 := dg_le (mul_pw ly lz)
  have l3 : (dg (val xs * val ys * val zs)).length ≤ 24 := dg_le (mul_pw (mul_pw lx ly) lz)
  have l4 : (dg (val ys + val zs)).length ≤ 9 := dg_le (add_pw ly lz)
  have l5 : (dg (val xs * val zs)).length ≤ 16 := dg_le (mul_pw lx lz)
  have l6 : (dg (val xs * (val ys + val zs))).length ≤ 17 := dg_le (mul_pw lx (add_pw ly lz))
  clear lx ly lz
  go_enter Try.func7, Try.ntmps7
  go_wp2_with fail
  refine (awake_calls _).mono ?_
  rintro e w1 ⟨rfl, b1⟩
  have h_1 := h.below b1
  have k_1 := k.below b1
  have j_1 := j.below b1
  have B1 := b1
  clear b1
  go_wp2_with fail
  refine (copied_at _ _ _ _ _ h_1 (by omega)).mono ?_
  rintro e w2 ⟨A2, c2, rfl, r1, b2⟩
  have h_2 := h_1.below b2
  have k_2 := k_1.below b2
  have j_2 := j_1.below b2
  have B2 := below_then B1 (Nat.le_refl _) b2
  clear h_1 k_1 j_1 B1 b2
  go_wp2_with fail
  refine (copied_at _ _ _ _ _ k_2 (by omega)).mono ?_
  rintro e w3 ⟨A3, c3, rfl, r2, b3⟩
  have h_3 := h_2.below b3
  have k_3 := k_2.below b3
  have j_3 := j_2.below b3
  have r1_3 := r1.below b3
  have B3 := below_then B2 (Nat.le_refl _) b3
  clear h_2 k_2 j_2 B2 b3
  go_wp2_with fail
  refine (mul_at _ _ _ _ _ _ _ _ _ (val xs) (val ys) (val xs * val ys) rfl rfl rfl r1_3 r2 (by omega) (by omega)).mono ?_
  rintro e w4 ⟨A4, c4, rfl, p, b4⟩
  have h_4 := h_3.below b4
  have k_4 := k_3.below b4
  have j_4 := j_3.below b4
  have r1_4 := r1_3.below b4
  have r2_4 := r2.below b4
  have B4 := below_then B3 (Nat.le_refl _) b4
  clear h_3 k_3 j_3 r1_3 B3 b4
  go_wp2_with fail
  refine (rmul_at _ _ _ _ _ _ _ _ _ (val xs) (val ys) (val xs * val ys) rfl rfl rfl h_4 k_4 (by omega) (by omega)).mono ?_
  rintro e w5 ⟨A5, c5, rfl, t, b5⟩
  have h_5 := h_4.below b5
  have k_5 := k_4.below b5
  have j_5 := j_4.below b5
  have p_5 := p.below b5
  have B5 := below_then B4 (Nat.le_refl _) b5
  clear h_4 k_4 j_4 B4 b5
  go_wp2_with fail
  refine (same_b _ _ _ _ _ _ _ p_5 t (by omega)).mono ?_
  rintro e w6 ⟨rfl, b6⟩
  have h_6 := h_5.below b6
  have k_6 := k_5.below b6
  have j_6 := j_5.below b6
  have p_6 := p_5.below b6
  have t_6 := t.below b6
  have B6 := below_then B5 (Nat.le_refl _) b6
  clear h_5 k_5 j_5 p_5 B5 b6
  go_wp2_with fail
  refine (mul_at _ _ _ _ _ _ _ _ _ (val ys) (val xs) (val xs * val ys) rfl rfl (Nat.mul_comm _ _) k_6 h_6 (by omega) (by omega)).mono ?_
  rintro e w7 ⟨A7, c7, rfl, t2, b7⟩
  have h_7 := h_6.below b7
  have k_7 := k_6.below b7
  have j_7 := j_6.below b7
  have p_7 := p_6.below b7
  have B7 := below_then B6 (Nat.le_refl _) b7
  clear h_6 k_6 j_6 p_6 B6 b7
  go_wp2_with fail
  refine (same_b _ _ _ _ _ _ _ p_7 t2 (by omega)).mono ?_
  rintro e w8 ⟨rfl, b8⟩
  have h_8 := h_7.below b8
  have k_8 := k_7.below b8
  have j_8 := j_7.below b8
  have p_8 := p_7.below b8
  have t2_8 := t2.below b8
  have B8 := below_then B7 (Nat.le_refl _) b8
  clear h_7 k_7 j_7 p_7 B7 b8
  go_wp2_with fail
  refine (mul_at _ _ _ _ _ _ _ _ _ (val xs * val ys) (val zs) (val xs * val ys * val zs) (val_dg _) rfl rfl p_8 j_8 (by omega) (by omega)).mono ?_
  rintro e w9 ⟨A9, c9, rfl, u, b9⟩
  have h_9 := h_8.below b9
  have k_9 := k_8.below b9
  have j_9 := j_8.below b9
  have p_9 := p_8.below b9
  have B9 := below_then B8 (Nat.le_refl _) b9
  clear h_8 k_8 j_8 p_8 B8 b9
  go_wp2_with fail
  refine (mul_at _ _ _ _ _ _ _ _ _ (val ys) (val zs) (val ys * val zs) rfl rfl rfl k_9 j_9 (by omega) (by omega)).mono ?_
  rintro e w10 ⟨A10, c10, rfl, v, b10⟩
  have h_10 := h_9.below b10
  have k_10 := k_9.below b10
  have j_10 := j_9.below b10
  have p_10 := p_9.below b10
  have u_10 := u.below b10
  have B10 := below_then B9 (Nat.le_refl _) b10
  clear h_9 k_9 j_9 p_9 B9 b10
  go_wp2_with fail
  refine (mul_at _ _ _ _ _ _ _ _ _ (val xs) (val ys * val zs) (val xs * val ys * val zs) rfl (val_dg _) (Nat.mul_assoc _ _ _).symm h_10 v (by omega) (by omega)).mono ?_
  rintro e w11 ⟨A11, c11, rfl, u2, b11⟩
  have h_11 := h_10.below b11
  have k_11 := k_10.below b11
  have j_11 := j_10.below b11
  have p_11 := p_10.below b11
  have u_11 := u_10.below b11
  have v_11 := v.below b11
  have B11 := below_then B10 (Nat.le_refl _) b11
  clear h_10 k_10 j_10 p_10 u_10 B10 b11
  go_wp2_with fail
  refine (same_b _ _ _ _ _ _ _ u_11 u2 (by omega)).mono ?_
  rintro e w12 ⟨rfl, b12⟩
  have h_12 := h_11.below b12
  have k_12 := k_11.below b12
  have j_12 := j_11.below b12
  have p_12 := p_11.below b12
  have u_12 := u_11.below b12
  have u2_12 := u2.below b12
  have B12 := below_then B11 (Nat.le_refl _) b12
  clear h_11 k_11 j_11 p_11 u_11 B11 b12
  go_wp2_with fail
  refine (add_at _ _ _ _ _ _ _ _ _ (val ys) (val zs) (val ys + val zs) rfl rfl rfl k_12 j_12 (by omega) (by omega)).mono ?_
  rintro e w13 ⟨A13, c13, rfl, a1, b13⟩
  have h_13 := h_12.below b13
  have k_13 := k_12.below b13
  have j_13 := j_12.below b13
  have p_13 := p_12.below b13
  have B13 := below_then B12 (Nat.le_refl _) b13
  clear h_12 k_12 j_12 p_12 B12 b13
  go_wp2_with fail
  refine (mul_at _ _ _ _ _ _ _ _ _ (val xs) (val ys + val zs) (val xs * (val ys + val zs)) rfl (val_dg _) rfl h_13 a1 (by omega) (by omega)).mono ?_
  rintro e w14 ⟨A14, c14, rfl, m1, b14⟩
  have h_14 := h_13.below b14
  have k_14 := k_13.below b14
  have j_14 := j_13.below b14
  have p_14 := p_13.below b14
  have a1_14 := a1.below b14
  have B14 := below_then B13 (Nat.le_refl _) b14
  clear h_13 k_13 j_13 p_13 B13 b14
  go_wp2_with fail
  refine (mul_at _ _ _ _ _ _ _ _ _ (val xs) (val zs) (val xs * val zs) rfl rfl rfl h_14 j_14 (by omega) (by omega)).mono ?_
  rintro e w15 ⟨A15, c15, rfl, m2, b15⟩
  have h_15 := h_14.below b15
  have k_15 := k_14.below b15
  have j_15 := j_14.below b15
  have p_15 := p_14.below b15
  have m1_15 := m1.below b15
  have B15 := below_then B14 (Nat.le_refl _) b15
  clear h_14 k_14 j_14 p_14 B14 b15
  go_wp2_with fail
  refine (add_at _ _ _ _ _ _ _ _ _ (val xs * val ys) (val xs * val zs) (val xs * (val ys + val zs)) (val_dg _) (val_dg _) (Nat.mul_add _ _ _).symm p_15 m2 (by omega) (by omega)).mono ?_
  rintro e w16 ⟨A16, c16, rfl, m3, b16⟩
  have h_16 := h_15.below b16
  have k_16 := k_15.below b16
  have j_16 := j_15.below b16
  have p_16 := p_15.below b16
  have m1_16 := m1_15.below b16
  have m2_16 := m2.below b16
  have B16 := below_then B15 (Nat.le_refl _) b16
  clear h_15 k_15 j_15 p_15 m1_15 B15 b16
  go_wp2_with fail
  refine (same_b _ _ _ _ _ _ _ m1_16 m3 (by omega)).mono ?_
  rintro e w17 ⟨rfl, b17⟩
  have h_17 := h_16.below b17
  have k_17 := k_16.below b17
  have j_17 := j_16.below b17
  have p_17 := p_16.below b17
  have m1_17 := m1_16.below b17
  have m3_17 := m3.below b17
  have B17 := below_then B16 (Nat.le_refl _) b17
  clear h_16 k_16 j_16 p_16 m1_16 B16 b17
  go_wp2
  go_ret
  exact ⟨rfl, B17⟩
end Go.Proofs.Ytllbncipadjjgaa
