/-
  The walk of NaturalGcd.
-/
import Derived.Test.YtllbncipadjjgaaMulLaw
import Derived.Test.YtllbncipadjjgaaW31
namespace Go.Proofs.Ytllbncipadjjgaa
open Go.RowKit
set_option linter.unusedVariables false
set_option linter.unusedSimpArgs false

theorem gcd_at (A B : Option Addr) (n m c d : Nat) (xs ys : List Nat) (w : World) (X Y Z : Nat) (hx : val xs = X) (hy : val ys = Y) (hz : Nat.gcd X Y = Z) (h : Rd w A n c xs) (h2 : Rd w B m d ys) (hn : n ≤ 65536) (hm : m ≤ 65536) :
    Calls Try.prog 39 #[.slice A n c, .slice B m d] w (Gives w (dg Z)) := by
  subst hz
  exact gcd_calls A B n m c d xs ys w X Y h h2 hn hm hx hy
theorem rgcd_at (A B : Option Addr) (n m c d : Nat) (xs ys : List Nat) (w : World) (X Y Z : Nat) (hx : val xs = X) (hy : val ys = Y) (hz : Nat.gcd X Y = Z) (h : Rd w A n c xs) (h2 : Rd w B m d ys) (hn : n ≤ 16384) (hm : m ≤ 16384) :
    Calls Try.prog 40 #[.slice A n c, .slice B m d] w (Gives w (dg Z)) := by
  subst hz
  exact rgcd_calls A B n m c d xs ys w X Y h h2 hn hm hx hy
theorem gcd_pw {x y p : Nat} (hx : x < p) (hy : y < p) : Nat.gcd x y < p := by
  rcases Nat.eq_zero_or_pos x with h | h
  · rw [h, Nat.gcd_zero_left]; exact hy
  · exact Nat.lt_of_le_of_lt (Nat.gcd_le_left y h) hx
theorem rmake_lit (w : World) (k : Nat) (hk : k < 4294967296) (L : Nat) (hL : (dg k).length = L) : Calls Try.prog 18 #[.slice (some ⟨w.heap.size, 0, none⟩) 1 1] (w.alloc (.cells #[.int .u32 (k : Int)] 42)) fun e w' => ∃ A1 c1, e = .returned (.slice A1 L c1) ∧ Rd w' A1 L c1 (dg k) ∧ Below w.heap.size w w' := by
  have hv : val [k] = k := by simp [val]
  have := rmake_len _ 1 1 [k] _ L (by rw [hv]; exact hL) (rd_one w k hk) (by omega)
  rw [hv] at this
  exact this.mono fun e w' ⟨A1, c1, he, hr, hb⟩ => ⟨A1, c1, he, hr, below_then ((Below.refl _ _).alloc (Nat.le_refl _) _) (Nat.le_refl _) hb⟩
theorem u32_wf {a : Int} (h : (Lit.int .u32 a).wf = true) : ∃ x : Nat, a = (x : Int) ∧ x < 4294967296 := by
  simp [Lit.wf, IntKind.min, IntKind.max, IntKind.bits, IntKind.signed] at h
  exact ⟨a.toNat, by omega, by omega⟩
theorem law_gcd_long (A B : Option Addr) (n m c d : Nat) (v : Value) (w : World) (hn : ¬ (n ≤ 3 ∧ m ≤ 3)) :
    Calls Try.prog 11 #[.slice A n c, .slice B m d, v] w fun e w' => e = .returned (.bool true) ∧ Below w.heap.size w w' := by
  by_cases h1 : n ≤ 3
  · have d1 : decide ((3 : Int) < (n : Int)) = false := by simp; omega
    have d2 : decide ((3 : Int) < (m : Int)) = true := by simp; omega
    clear hn h1
    go_enter Try.func11, Try.ntmps11
    go_wp2_with fail
    refine (awake_calls _).mono ?_
    rintro e w1 ⟨rfl, b1⟩
    go_wp2
    go_ret
    exact ⟨rfl, b1⟩
  · have d1 : decide ((3 : Int) < (n : Int)) = true := by simp; omega
    clear hn h1
    go_enter Try.func11, Try.ntmps11
    go_wp2_with fail
    refine (awake_calls _).mono ?_
    rintro e w1 ⟨rfl, b1⟩
    go_wp2
    go_ret
    exact ⟨rfl, b1⟩
set_option maxHeartbeats 1000000 in
theorem law_gcd (A B : Option Addr) (n m c d : Nat) (xs ys : List Nat) (kk : Nat) (w : World) (h : Rd w A n c xs) (k : Rd w B m d ys) (hn : n ≤ 3) (hm : m ≤ 3) (hkk : kk < 4294967296) :
    Calls Try.prog 11 #[.slice A n c, .slice B m d, .int .u32 (kk : Int)] w fun e w' => e = .returned (.bool true) ∧ Below w.heap.size w w' := by
  have d1 : decide ((3 : Int) < (n : Int)) = false := by simp; omega
  have d2 : decide ((3 : Int) < (m : Int)) = false := by simp; omega
  have lx := rd_lt h hn
  have ly := rd_lt k hm
  have lk : kk < pw 1 := by simpa [pw] using hkk
  have l1 : (dg (Nat.gcd (val xs) (val ys))).length ≤ 3 := dg_le (gcd_pw lx ly)
  have l2 : (dg (val xs * kk)).length ≤ 4 := dg_le (mul_pw lx lk)
  have l3 : (dg (val ys * kk)).length ≤ 4 := dg_le (mul_pw ly lk)
  have l4 : (dg (Nat.gcd (val xs) (val ys) * kk)).length ≤ 4 := dg_le (mul_pw (gcd_pw lx ly) lk)
  obtain ⟨L, hL⟩ : ∃ L, (dg kk).length = L := ⟨_, rfl⟩
  have l5 : L ≤ 1 := by rw [← hL]; exact dg_le lk
  have HL := hide hL
  clear lx ly lk hL
  go_enter Try.func11, Try.ntmps11
  go_wp2_with fail
  refine (awake_calls _).mono ?_
  rintro e w1 ⟨rfl, b1⟩
  have h_1 := h.below b1
  have k_1 := k.below b1
  have B1 := b1
  clear b1
  go_wp2_with fail
  refine (copied_at _ _ _ _ _ h_1 (by omega)).mono ?_
  rintro e w2 ⟨A2, c2, rfl, r1, b2⟩
  have h_2 := h_1.below b2
  have k_2 := k_1.below b2
  have B2 := below_then B1 (Nat.le_refl _) b2
  clear h_1 k_1 B1 b2
  go_wp2_with fail
  refine (copied_at _ _ _ _ _ k_2 (by omega)).mono ?_
  rintro e w3 ⟨A3, c3, rfl, r2, b3⟩
  have h_3 := h_2.below b3
  have k_3 := k_2.below b3
  have r1_3 := r1.below b3
  have B3 := below_then B2 (Nat.le_refl _) b3
  clear h_2 k_2 B2 b3
  go_wp2_with fail
  refine (gcd_at _ _ _ _ _ _ _ _ _ (val xs) (val ys) (Nat.gcd (val xs) (val ys)) rfl rfl rfl r1_3 r2 (by omega) (by omega)).mono ?_
  rintro e w4 ⟨A4, c4, rfl, p, b4⟩
  have h_4 := h_3.below b4
  have k_4 := k_3.below b4
  have r1_4 := r1_3.below b4
  have r2_4 := r2.below b4
  have B4 := below_then B3 (Nat.le_refl _) b4
  clear h_3 k_3 r1_3 B3 b4
  go_wp2_with fail
  refine (rgcd_at _ _ _ _ _ _ _ _ _ (val xs) (val ys) (Nat.gcd (val xs) (val ys)) rfl rfl rfl h_4 k_4 (by omega) (by omega)).mono ?_
  rintro e w5 ⟨A5, c5, rfl, t, b5⟩
  have h_5 := h_4.below b5
  have k_5 := k_4.below b5
  have p_5 := p.below b5
  have B5 := below_then B4 (Nat.le_refl _) b5
  clear h_4 k_4 B4 b5
  go_wp2_with fail
  refine (same_b _ _ _ _ _ _ _ p_5 t (by omega)).mono ?_
  rintro e w6 ⟨rfl, b6⟩
  have h_6 := h_5.below b6
  have k_6 := k_5.below b6
  have p_6 := p_5.below b6
  have t_6 := t.below b6
  have B6 := below_then B5 (Nat.le_refl _) b6
  clear h_5 k_5 p_5 B5 b6
  go_wp2_with fail
  refine (gcd_at _ _ _ _ _ _ _ _ _ (val ys) (val xs) (Nat.gcd (val xs) (val ys)) rfl rfl (Nat.gcd_comm _ _) k_6 h_6 (by omega) (by omega)).mono ?_
  rintro e w7 ⟨A7, c7, rfl, t2, b7⟩
  have h_7 := h_6.below b7
  have k_7 := k_6.below b7
  have p_7 := p_6.below b7
  have B7 := below_then B6 (Nat.le_refl _) b7
  clear h_6 k_6 p_6 B6 b7
  go_wp2_with fail
  refine (same_b _ _ _ _ _ _ _ p_7 t2 (by omega)).mono ?_
  rintro e w8 ⟨rfl, b8⟩
  have h_8 := h_7.below b8
  have k_8 := k_7.below b8
  have p_8 := p_7.below b8
  have t2_8 := t2.below b8
  have B8 := below_then B7 (Nat.le_refl _) b8
  clear h_7 k_7 p_7 B7 b8
  go_wp2_with fail
  refine (rmake_lit _ kk hkk L HL.out).mono ?_
  rintro e w9 ⟨A9, c9, rfl, f, b9⟩
  have h_9 := h_8.below b9
  have k_9 := k_8.below b9
  have p_9 := p_8.below b9
  have B9 := below_then B8 (Nat.le_refl _) b9
  clear h_8 k_8 p_8 B8 b9
  go_wp2_with fail
  refine (rmul_at _ _ _ _ _ _ _ _ _ (val xs) kk (val xs * kk) rfl (val_dg _) rfl h_9 f (by omega) (by omega)).mono ?_
  rintro e w10 ⟨A10, c10, rfl, u1, b10⟩
  have h_10 := h_9.below b10
  have k_10 := k_9.below b10
  have p_10 := p_9.below b10
  have f_10 := f.below b10
  have B10 := below_then B9 (Nat.le_refl _) b10
  clear h_9 k_9 p_9 B9 b10
  go_wp2_with fail
  refine (rmul_at _ _ _ _ _ _ _ _ _ (val ys) kk (val ys * kk) rfl (val_dg _) rfl k_10 f_10 (by omega) (by omega)).mono ?_
  rintro e w11 ⟨A11, c11, rfl, u2, b11⟩
  have h_11 := h_10.below b11
  have k_11 := k_10.below b11
  have p_11 := p_10.below b11
  have f_11 := f_10.below b11
  have u1_11 := u1.below b11
  have B11 := below_then B10 (Nat.le_refl _) b11
  clear h_10 k_10 p_10 f_10 B10 b11
  go_wp2_with fail
  refine (gcd_at _ _ _ _ _ _ _ _ _ (val xs * kk) (val ys * kk) (Nat.gcd (val xs) (val ys) * kk) (val_dg _) (val_dg _) (Nat.gcd_mul_right _ _ _) u1_11 u2 (by omega) (by omega)).mono ?_
  rintro e w12 ⟨A12, c12, rfl, v1, b12⟩
  have h_12 := h_11.below b12
  have k_12 := k_11.below b12
  have p_12 := p_11.below b12
  have f_12 := f_11.below b12
  have u1_12 := u1_11.below b12
  have u2_12 := u2.below b12
  have B12 := below_then B11 (Nat.le_refl _) b12
  clear h_11 k_11 p_11 f_11 u1_11 B11 b12
  go_wp2_with fail
  refine (rmul_at _ _ _ _ _ _ _ _ _ (Nat.gcd (val xs) (val ys)) kk (Nat.gcd (val xs) (val ys) * kk) (val_dg _) (val_dg _) rfl p_12 f_12 (by omega) (by omega)).mono ?_
  rintro e w13 ⟨A13, c13, rfl, v2, b13⟩
  have h_13 := h_12.below b13
  have k_13 := k_12.below b13
  have p_13 := p_12.below b13
  have f_13 := f_12.below b13
  have v1_13 := v1.below b13
  have B13 := below_then B12 (Nat.le_refl _) b13
  clear h_12 k_12 p_12 f_12 B12 b13
  go_wp2_with fail
  refine (same_b _ _ _ _ _ _ _ v1_13 v2 (by omega)).mono ?_
  rintro e w14 ⟨rfl, b14⟩
  have h_14 := h_13.below b14
  have k_14 := k_13.below b14
  have p_14 := p_13.below b14
  have f_14 := f_13.below b14
  have v1_14 := v1_13.below b14
  have v2_14 := v2.below b14
  have B14 := below_then B13 (Nat.le_refl _) b14
  clear h_13 k_13 p_13 f_13 v1_13 B13 b14
  go_wp2
  go_ret
  exact ⟨rfl, B14⟩
end Go.Proofs.Ytllbncipadjjgaa
