/-
  The walk of NaturalShift.
-/
import Derived.Test.YtllbncipadjjgaaMulLaw
import Derived.Test.YtllbncipadjjgaaW24
namespace Go.Proofs.Ytllbncipadjjgaa
open Go.RowKit
set_option linter.unusedVariables false
set_option linter.unusedSimpArgs false

theorem shl_e (A : Option Addr) (n c : Nat) (w : World) (k : Int) (hk : k < 0 ∨ 1048576 < k) :
    Calls Try.prog 34 #[.slice A n c, .int .i64 k] w fun e w' => ∃ A1 c1, e = .returned (.tuple #[.slice A1 0 c1, .int .i64 2]) ∧ Rd w' A1 0 c1 [] ∧ Below w.heap.size w w' := shl_bad A n c w k hk
theorem shr_e (A : Option Addr) (n c : Nat) (w : World) (k : Int) (hk : k < 0 ∨ 1048576 < k) :
    Calls Try.prog 35 #[.slice A n c, .int .i64 k] w fun e w' => ∃ A1 c1, e = .returned (.tuple #[.slice A1 0 c1, .int .i64 2]) ∧ Rd w' A1 0 c1 [] ∧ Below w.heap.size w w' := shr_bad A n c w k hk
theorem rshl_e (A : Option Addr) (n c : Nat) (w : World) (k : Int) (hk : k < 0 ∨ 1048576 < k) :
    Calls Try.prog 36 #[.slice A n c, .int .i64 k] w fun e w' => ∃ A1 c1, e = .returned (.tuple #[.slice A1 0 c1, .int .i64 2]) ∧ Rd w' A1 0 c1 [] ∧ Below w.heap.size w w' := rshl_bad A n c w k hk
theorem rshr_e (A : Option Addr) (n c : Nat) (w : World) (k : Int) (hk : k < 0 ∨ 1048576 < k) :
    Calls Try.prog 37 #[.slice A n c, .int .i64 k] w fun e w' => ∃ A1 c1, e = .returned (.tuple #[.slice A1 0 c1, .int .i64 2]) ∧ Rd w' A1 0 c1 [] ∧ Below w.heap.size w w' := rshr_bad A n c w k hk
theorem shl_at (A : Option Addr) (n c : Nat) (xs : List Nat) (w : World) (k X Z : Nat) (hx : val xs = X) (hz : X * 2 ^ k = Z) (h : Rd w A n c xs) (hn : n ≤ 1048576) (hk : k ≤ 1048576) :
    Calls Try.prog 34 #[.slice A n c, .int .i64 (k : Int)] w (GivesE w (dg Z) 0) := by
  subst hx hz
  exact shl_ok A n c xs w k h hn hk
theorem shr_at (A : Option Addr) (n c : Nat) (xs : List Nat) (w : World) (k X Z : Nat) (hx : val xs = X) (hz : X / 2 ^ k = Z) (h : Rd w A n c xs) (hn : n ≤ 1048576) (hk : k ≤ 1048576) :
    Calls Try.prog 35 #[.slice A n c, .int .i64 (k : Int)] w (GivesE w (dg Z) 0) := by
  subst hx hz
  exact shr_ok A n c xs w k h hn hk
theorem rShl_at (A : Option Addr) (n c : Nat) (xs : List Nat) (w : World) (k X Z : Nat) (hx : val xs = X) (hz : X * 2 ^ k = Z) (h : Rd w A n c xs) (hn : n ≤ 1048576) (hk : k ≤ 1048576) :
    Calls Try.prog 36 #[.slice A n c, .int .i64 (k : Int)] w (GivesE w (dg Z) 0) := by
  subst hx hz
  exact rShl_ok A n c xs w k h hn hk
theorem rShr_at (A : Option Addr) (n c : Nat) (xs : List Nat) (w : World) (k X Z : Nat) (hx : val xs = X) (hz : X / 2 ^ k = Z) (h : Rd w A n c xs) (hn : n ≤ 1048576) (hk : k ≤ 1048576) :
    Calls Try.prog 37 #[.slice A n c, .int .i64 (k : Int)] w (GivesE w (dg Z) 0) := by
  subst hx hz
  exact rShr_ok A n c xs w k h hn hk
/-- The literal 1, shifted. -/
theorem power_at (w : World) (k : Nat) (hk : k ≤ 1048576) : Calls Try.prog 34 #[.slice (some ⟨w.heap.size, 0, none⟩) 1 1, .int .i64 (k : Int)] (w.alloc (.cells #[.int .u32 1] 42)) fun e w' =>
    ∃ A1 c1, e = .returned (.tuple #[.slice A1 (dg (2 ^ k)).length c1, .int .i64 0]) ∧ Rd w' A1 (dg (2 ^ k)).length c1 (dg (2 ^ k)) ∧ Below w.heap.size w w' := by
  refine (shl_at _ 1 1 [1] _ k 1 (2 ^ k) rfl (Nat.one_mul _) (rd_lit w _ [1] 1 rfl sm_1 rfl) (by omega) hk).mono ?_
  rintro e w' ⟨A1, c1, rfl, hr, hb⟩
  exact ⟨A1, c1, rfl, hr, below_then ((Below.refl _ _).alloc (Nat.le_refl _) _) (Nat.le_refl _) hb⟩
theorem law_shift_long (A : Option Addr) (n c : Nat) (k : Int) (w : World) (hn : 12 < n ∨ 300 < k ∧ k ≤ 1048576) :
    Calls Try.prog 8 #[.slice A n c, .int .i64 k] w fun e w' => e = .returned (.bool true) ∧ Below w.heap.size w w' := by
  by_cases h1 : n ≤ 12
  · have d1 : decide ((12 : Int) < (n : Int)) = false := by simp; omega
    have d2 : decide ((300 : Int) < k) = true := by simp; omega
    have d3 : decide (k ≤ 1048576) = true := by simp; omega
    clear hn h1
    go_enter Try.func8, Try.ntmps8
    go_wp2_with fail
    refine (awake_calls _).mono ?_
    rintro e w1 ⟨rfl, b1⟩
    go_wp2
    go_ret
    exact ⟨rfl, b1⟩
  · have d1 : decide ((12 : Int) < (n : Int)) = true := by simp; omega
    clear hn h1
    go_enter Try.func8, Try.ntmps8
    go_wp2_with fail
    refine (awake_calls _).mono ?_
    rintro e w1 ⟨rfl, b1⟩
    go_wp2
    go_ret
    exact ⟨rfl, b1⟩
set_option maxHeartbeats 1000000 in
theorem law_shift_neg (A : Option Addr) (n c : Nat) (xs : List Nat) (k : Int) (w : World) (h : Rd w A n c xs) (hn : n ≤ 12) (hk : k < 0) :
    Calls Try.prog 8 #[.slice A n c, .int .i64 k] w fun e w' => e = .returned (.bool true) ∧ Below w.heap.size w w' := by
  have d1 : decide ((12 : Int) < (n : Int)) = false := by simp; omega
  have d2 : decide ((300 : Int) < k) = false := by simp; omega
  have HK := hide (show k < 0 ∨ 1048576 < k from .inl hk)
  clear hk
  go_enter Try.func8, Try.ntmps8
  go_wp2_with fail
  refine (awake_calls _).mono ?_
  rintro e w1 ⟨rfl, b1⟩
  have h_1 := h.below b1
  have B1 := b1
  clear b1
  go_wp2_with fail
  refine (shl_e _ _ _ _ _ HK.out).mono ?_
  rintro e w2 ⟨A2, c2, rfl, r1, b2⟩
  have h_2 := h_1.below b2
  have B2 := below_then B1 (Nat.le_refl _) b2
  clear h_1 B1 b2
  go_wp2_with fail
  refine (shr_e _ _ _ _ _ HK.out).mono ?_
  rintro e w3 ⟨A3, c3, rfl, r2, b3⟩
  have h_3 := h_2.below b3
  have r1_3 := r1.below b3
  have B3 := below_then B2 (Nat.le_refl _) b3
  clear h_2 B2 b3
  go_wp2_with fail
  refine (rshl_e _ _ _ _ _ HK.out).mono ?_
  rintro e w4 ⟨A4, c4, rfl, r3, b4⟩
  have h_4 := h_3.below b4
  have r1_4 := r1_3.below b4
  have r2_4 := r2.below b4
  have B4 := below_then B3 (Nat.le_refl _) b4
  clear h_3 r1_3 B3 b4
  go_wp2_with fail
  refine (rshr_e _ _ _ _ _ HK.out).mono ?_
  rintro e w5 ⟨A5, c5, rfl, r4, b5⟩
  have h_5 := h_4.below b5
  have r1_5 := r1_4.below b5
  have r2_5 := r2_4.below b5
  have r3_5 := r3.below b5
  have B5 := below_then B4 (Nat.le_refl _) b5
  clear h_4 r1_4 r2_4 B4 b5
  go_wp2_with fail
  refine (same_b _ _ _ _ _ _ _ r1_5 r3_5 (by omega)).mono ?_
  rintro e w6 ⟨rfl, b6⟩
  have h_6 := h_5.below b6
  have r1_6 := r1_5.below b6
  have r2_6 := r2_5.below b6
  have r3_6 := r3_5.below b6
  have r4_6 := r4.below b6
  have B6 := below_then B5 (Nat.le_refl _) b6
  clear h_5 r1_5 r2_5 r3_5 B5 b6
  go_wp2_with fail
  refine (same_b _ _ _ _ _ _ _ r2_6 r4_6 (by omega)).mono ?_
  rintro e w7 ⟨rfl, b7⟩
  have h_7 := h_6.below b7
  have r1_7 := r1_6.below b7
  have r2_7 := r2_6.below b7
  have r3_7 := r3_6.below b7
  have r4_7 := r4_6.below b7
  have B7 := below_then B6 (Nat.le_refl _) b7
  clear h_6 r1_6 r2_6 r3_6 r4_6 B6 b7
  go_wp2
  go_ret
  exact ⟨rfl, B7⟩
set_option maxHeartbeats 1000000 in
theorem law_shift_big (A : Option Addr) (n c : Nat) (xs : List Nat) (k : Int) (w : World) (h : Rd w A n c xs) (hn : n ≤ 12) (hk : 1048576 < k) :
    Calls Try.prog 8 #[.slice A n c, .int .i64 k] w fun e w' => e = .returned (.bool true) ∧ Below w.heap.size w w' := by
  have d1 : decide ((12 : Int) < (n : Int)) = false := by simp; omega
  have d2 : decide ((300 : Int) < k) = true := by simp; omega
  have d3 : decide (k ≤ 1048576) = false := by simp; omega
  have HK := hide (show k < 0 ∨ 1048576 < k from .inr hk)
  clear hk
  go_enter Try.func8, Try.ntmps8
  go_wp2_with fail
  refine (awake_calls _).mono ?_
  rintro e w1 ⟨rfl, b1⟩
  have h_1 := h.below b1
  have B1 := b1
  clear b1
  go_wp2_with fail
  refine (shl_e _ _ _ _ _ HK.out).mono ?_
  rintro e w2 ⟨A2, c2, rfl, r1, b2⟩
  have h_2 := h_1.below b2
  have B2 := below_then B1 (Nat.le_refl _) b2
  clear h_1 B1 b2
  go_wp2_with fail
  refine (shr_e _ _ _ _ _ HK.out).mono ?_
  rintro e w3 ⟨A3, c3, rfl, r2, b3⟩
  have h_3 := h_2.below b3
  have r1_3 := r1.below b3
  have B3 := below_then B2 (Nat.le_refl _) b3
  clear h_2 B2 b3
  go_wp2_with fail
  refine (rshl_e _ _ _ _ _ HK.out).mono ?_
  rintro e w4 ⟨A4, c4, rfl, r3, b4⟩
  have h_4 := h_3.below b4
  have r1_4 := r1_3.below b4
  have r2_4 := r2.below b4
  have B4 := below_then B3 (Nat.le_refl _) b4
  clear h_3 r1_3 B3 b4
  go_wp2_with fail
  refine (rshr_e _ _ _ _ _ HK.out).mono ?_
  rintro e w5 ⟨A5, c5, rfl, r4, b5⟩
  have h_5 := h_4.below b5
  have r1_5 := r1_4.below b5
  have r2_5 := r2_4.below b5
  have r3_5 := r3.below b5
  have B5 := below_then B4 (Nat.le_refl _) b5
  clear h_4 r1_4 r2_4 B4 b5
  go_wp2_with fail
  refine (same_b _ _ _ _ _ _ _ r1_5 r3_5 (by omega)).mono ?_
  rintro e w6 ⟨rfl, b6⟩
  have h_6 := h_5.below b6
  have r1_6 := r1_5.below b6
  have r2_6 := r2_5.below b6
  have r3_6 := r3_5.below b6
  have r4_6 := r4.below b6
  have B6 := below_then B5 (Nat.le_refl _) b6
  clear h_5 r1_5 r2_5 r3_5 B5 b6
  go_wp2_with fail
  refine (same_b _ _ _ _ _ _ _ r2_6 r4_6 (by omega)).mono ?_
  rintro e w7 ⟨rfl, b7⟩
  have h_7 := h_6.below b7
  have r1_7 := r1_6.below b7
  have r2_7 := r2_6.below b7
  have r3_7 := r3_6.below b7
  have r4_7 := r4_6.below b7
  have B7 := below_then B6 (Nat.le_refl _) b7
  clear h_6 r1_6 r2_6 r3_6 r4_6 B6 b7
  go_wp2
  go_ret
  exact ⟨rfl, B7⟩
set_option maxHeartbeats 1000000 in
theorem law_shift_good (A : Option Addr) (n c : Nat) (xs : List Nat) (k : Nat) (w : World) (h : Rd w A n c xs) (hn : n ≤ 12) (hk : k ≤ 300) :
    Calls Try.prog 8 #[.slice A n c, .int .i64 (k : Int)] w fun e w' => e = .returned (.bool true) ∧ Below w.heap.size w w' := by
  have d1 : decide ((12 : Int) < (n : Int)) = false := by simp; omega
  have d2 : decide ((300 : Int) < (k : Int)) = false := by simp; omega
  have lx := rd_lt h hn
  have h2k : 2 ^ k < pw 10 := by
    have e1 : 2 ^ (k % 32) < pw 1 := Nat.lt_of_le_of_lt (two31 k) (by decide)
    rw [pow_split]
    refine Nat.lt_of_lt_of_le (Nat.mul_lt_mul_of_pos_left e1 (pw_pos _)) ?_
    rw [← pw_add]
    exact pw_mono (by omega)
  have l1 : (dg (val xs * 2 ^ k)).length ≤ 22 := dg_le (mul_pw lx h2k)
  have l2 : (dg (val xs / 2 ^ k)).length ≤ 12 := dg_le (Nat.lt_of_le_of_lt (Nat.div_le_self _ _) lx)
  have l3 : (dg (2 ^ k)).length ≤ 10 := dg_le h2k
  have l4 : (dg (val xs)).length ≤ 12 := dg_le lx
  have hpos : 0 < 2 ^ k := Nat.two_pow_pos k
  have HD := hide (show val xs * 2 ^ k / 2 ^ k = val xs from Nat.mul_div_cancel _ hpos)
  have hk6 : k ≤ 1048576 := by omega
  clear lx h2k hpos
  go_enter Try.func8, Try.ntmps8
  go_wp2_with fail
  refine (awake_calls _).mono ?_
  rintro e w1 ⟨rfl, b1⟩
  have h_1 := h.below b1
  have B1 := b1
  clear b1
  go_wp2_with fail
  refine (shl_at _ _ _ _ _ k (val xs) (val xs * 2 ^ k) rfl rfl h_1 (by omega) hk6).mono ?_
  rintro e w2 ⟨A2, c2, rfl, r1, b2⟩
  have h_2 := h_1.below b2
  have B2 := below_then B1 (Nat.le_refl _) b2
  clear h_1 B1 b2
  go_wp2_with fail
  refine (shr_at _ _ _ _ _ k (val xs) (val xs / 2 ^ k) rfl rfl h_2 (by omega) hk6).mono ?_
  rintro e w3 ⟨A3, c3, rfl, r2, b3⟩
  have h_3 := h_2.below b3
  have r1_3 := r1.below b3
  have B3 := below_then B2 (Nat.le_refl _) b3
  clear h_2 B2 b3
  go_wp2_with fail
  refine (rShl_at _ _ _ _ _ k (val xs) (val xs * 2 ^ k) rfl rfl h_3 (by omega) hk6).mono ?_
  rintro e w4 ⟨A4, c4, rfl, r3, b4⟩
  have h_4 := h_3.below b4
  have r1_4 := r1_3.below b4
  have r2_4 := r2.below b4
  have B4 := below_then B3 (Nat.le_refl _) b4
  clear h_3 r1_3 B3 b4
  go_wp2_with fail
  refine (rShr_at _ _ _ _ _ k (val xs) (val xs / 2 ^ k) rfl rfl h_4 (by omega) hk6).mono ?_
  rintro e w5 ⟨A5, c5, rfl, r4, b5⟩
  have h_5 := h_4.below b5
  have r1_5 := r1_4.below b5
  have r2_5 := r2_4.below b5
  have r3_5 := r3.below b5
  have B5 := below_then B4 (Nat.le_refl _) b5
  clear h_4 r1_4 r2_4 B4 b5
  go_wp2_with fail
  refine (same_b _ _ _ _ _ _ _ r1_5 r3_5 (by omega)).mono ?_
  rintro e w6 ⟨rfl, b6⟩
  have h_6 := h_5.below b6
  have r1_6 := r1_5.below b6
  have r2_6 := r2_5.below b6
  have r3_6 := r3_5.below b6
  have r4_6 := r4.below b6
  have B6 := below_then B5 (Nat.le_refl _) b6
  clear h_5 r1_5 r2_5 r3_5 B5 b6
  go_wp2_with fail
  refine (same_b _ _ _ _ _ _ _ r2_6 r4_6 (by omega)).mono ?_
  rintro e w7 ⟨rfl, b7⟩
  have h_7 := h_6.below b7
  have r1_7 := r1_6.below b7
  have r2_7 := r2_6.below b7
  have r4_7 := r4_6.below b7
  have B7 := below_then B6 (Nat.le_refl _) b7
  clear h_6 r1_6 r2_6 r4_6 B6 b7
  go_wp2_with fail
  refine (shr_at _ _ _ _ _ k (val xs * 2 ^ k) (val xs) (val_dg _) HD.out r1_7 (by omega) hk6).mono ?_
  rintro e w8 ⟨A8, c8, rfl, b, b8⟩
  have h_8 := h_7.below b8
  have r1_8 := r1_7.below b8
  have B8 := below_then B7 (Nat.le_refl _) b8
  clear h_7 r1_7 B7 b8
  go_wp2_with fail
  refine (power_at _ k hk6).mono ?_
  rintro e w9 ⟨A9, c9, rfl, p, b9⟩
  have h_9 := h_8.below b9
  have r1_9 := r1_8.below b9
  have b_9 := b.below b9
  have B9 := below_then B8 (Nat.le_refl _) b9
  clear h_8 r1_8 B8 b9
  go_wp2_with fail
  refine (rmake_calls _ _ _ _ _ h_9 (by omega)).mono ?_
  rintro e w10 ⟨A10, c10, rfl, u, b10⟩
  have h_10 := h_9.below b10
  have r1_10 := r1_9.below b10
  have b_10 := b_9.below b10
  have p_10 := p.below b10
  have B10 := below_then B9 (Nat.le_refl _) b10
  clear h_9 r1_9 b_9 B9 b10
  go_wp2_with fail
  refine (same_b _ _ _ _ _ _ _ b_10 u (by omega)).mono ?_
  rintro e w11 ⟨rfl, b11⟩
  have h_11 := h_10.below b11
  have r1_11 := r1_10.below b11
  have b_11 := b_10.below b11
  have p_11 := p_10.below b11
  have u_11 := u.below b11
  have B11 := below_then B10 (Nat.le_refl _) b11
  clear h_10 r1_10 b_10 p_10 B10 b11
  go_wp2_with fail
  refine (mul_at _ _ _ _ _ _ _ _ _ (val xs) (2 ^ k) (val xs * 2 ^ k) rfl (val_dg _) rfl h_11 p_11 (by omega) (by omega)).mono ?_
  rintro e w12 ⟨A12, c12, rfl, m, b12⟩
  have h_12 := h_11.below b12
  have r1_12 := r1_11.below b12
  have p_12 := p_11.below b12
  have B12 := below_then B11 (Nat.le_refl _) b12
  clear h_11 r1_11 p_11 B11 b12
  go_wp2_with fail
  refine (same_b _ _ _ _ _ _ _ r1_12 m (by omega)).mono ?_
  rintro e w13 ⟨rfl, b13⟩
  have h_13 := h_12.below b13
  have r1_13 := r1_12.below b13
  have p_13 := p_12.below b13
  have m_13 := m.below b13
  have B13 := below_then B12 (Nat.le_refl _) b13
  clear h_12 r1_12 p_12 B12 b13
  go_wp2
  go_ret
  exact ⟨rfl, B13⟩
end Go.Proofs.Ytllbncipadjjgaa
