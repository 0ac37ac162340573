/-
  The walk of NaturalAdd.
-/
import Derived.Test.YtllbncipadjjgaaLaw
import Derived.Test.YtllbncipadjjgaaW21
namespace Go.Proofs.Ytllbncipadjjgaa
open Go.RowKit
set_option linter.unusedVariables false
set_option linter.unusedSimpArgs false

theorem val_of {xs : List Nat} {X : Nat} (h : val xs = X) : val xs = X := h
theorem add_at (A B : Option Addr) (n m c d : Nat) (xs ys : List Nat) (w : World) (X Y Z : Nat) (hx : val xs = X) (hy : val ys = Y) (hz : X + Y = Z) (h : Rd w A n c xs) (h2 : Rd w B m d ys) (hn : n ≤ 1048576) (hm : m ≤ 1048576) :
    Calls Try.prog 28 #[.slice A n c, .slice B m d] w (Gives w (dg Z)) := by
  subst hx hy hz
  exact add_calls A B n m c d xs ys w h h2 hn hm
theorem radd_at (A B : Option Addr) (n m c d : Nat) (xs ys : List Nat) (w : World) (X Y Z : Nat) (hx : val xs = X) (hy : val ys = Y) (hz : X + Y = Z) (h : Rd w A n c xs) (h2 : Rd w B m d ys) (hn : n ≤ 1048576) (hm : m ≤ 1048576) :
    Calls Try.prog 29 #[.slice A n c, .slice B m d] w (Gives w (dg Z)) := by
  subst hx hy hz
  exact radd_calls A B n m c d xs ys w h h2 hn hm
theorem copied_at (A : Option Addr) (n c : Nat) (xs : List Nat) (w : World) (h : Rd w A n c xs) (hn : n ≤ 1048576) :
    Calls Try.prog 14 #[.slice A n c] w fun e w' => ∃ A1 c1, e = .returned (.slice A1 n c1) ∧ Rd w' A1 n c1 xs ∧ Below w.heap.size w w' := by
  have := copied_calls A n c xs w h hn
  unfold Gives at this
  rw [h.len] at this
  exact this
theorem dg_le {n k : Nat} (h : n < pw k) : (dg n).length ≤ k := len_dg_le h
theorem add_pw {x y k : Nat} (hx : x < pw k) (hy : y < pw k) : x + y < pw (k + 1) := by
  have := pw_pos k
  rw [pw]
  omega
theorem rd_lt {w : World} {A : Option Addr} {n c k : Nat} {xs : List Nat} (h : Rd w A n c xs) (hn : n ≤ k) : val xs < pw k := by
  have := val_lt h.sm
  rw [h.len] at this
  exact Nat.lt_of_lt_of_le this (pw_mono hn)
theorem law_add_long (A B C : Option Addr) (n m l c d f : Nat) (w : World) (hn : ¬ (n ≤ 12 ∧ m ≤ 12 ∧ l ≤ 12)) :
    Calls Try.prog 5 #[.slice A n c, .slice B m d, .slice C l f] w fun e w' => e = .returned (.bool true) ∧ Below w.heap.size w w' := by
  by_cases h1 : n ≤ 12 ∧ m ≤ 12
  · have h2 : decide ((12 : Int) < (l : Int)) = true := by simp; omega
    have hd := few_calls A B n m c d
    have HF := hide (fun W => hd W true (by simp [h1]))
    clear hd hn h1
    go_enter Try.func5, Try.ntmps5
    go_wp2_with fail
    refine (awake_calls _).mono ?_
    rintro e w1 ⟨rfl, b1⟩
    go_wp2_with fail
    refine (unhide HF _).mono ?_
    rintro e w' ⟨rfl, rfl⟩
    go_wp2
    go_ret
    exact ⟨rfl, b1⟩
  · have hd := few_calls A B n m c d
    have HF := hide (fun W => hd W false (by simpa using h1))
    clear hd hn h1
    go_enter Try.func5, Try.ntmps5
    go_wp2_with fail
    refine (awake_calls _).mono ?_
    rintro e w1 ⟨rfl, b1⟩
    go_wp2_with fail
    refine (unhide HF _).mono ?_
    rintro e w' ⟨rfl, rfl⟩
    go_wp2
    go_ret
    exact ⟨rfl, b1⟩
set_option maxHeartbeats 1000000 in
theorem law_add (A B C : Option Addr) (n m l c d f : Nat) (xs ys zs : List Nat) (w : World) (h : Rd w A n c xs) (k : Rd w B m d ys) (j : Rd w C l f zs) (hn : n ≤ 12) (hm : m ≤ 12) (hl : l ≤ 12) :
    Calls Try.prog 5 #[.slice A n c, .slice B m d, .slice C l f] w fun e w' => e = .returned (.bool true) ∧ Below w.heap.size w w' := by
  have HF := hide (fun W => few_calls A B n m c d W true (by simp; omega))
  have h2 : decide ((12 : Int) < (l : Int)) = false := by simp; omega
  have lx := rd_lt h hn
  have ly := rd_lt k hm
  have lz := rd_lt j hl
  have l1 : (dg (val xs + val ys)).length ≤ 13 := dg_le (add_pw lx ly)
  have l2 : (dg (val ys + val zs)).length ≤ 13 := dg_le (add_pw ly lz)
  have l3 : (dg (val xs + val ys + val zs)).length ≤ 14 := dg_le (add_pw (add_pw lx ly) (Nat.lt_of_lt_of_le lz (pw_mono (by omega))))
  clear lx ly lz
  go_enter Try.func5, Try.ntmps5
  go_wp2_with fail
  refine (awake_calls _).mono ?_
  rintro e w1 ⟨rfl, b1⟩
  have h_1 := h.below b1
  have k_1 := k.below b1
  have j_1 := j.below b1
  have B1 := b1
  clear b1
  go_wp2_with fail
  refine (unhide HF _).mono ?_
  rintro e w' ⟨rfl, rfl⟩
  go_wp2_with fail
  refine (copied_at _ _ _ _ _ h_1 (by omega)).mono ?_
  rintro e w3 ⟨A3, c3, rfl, r1, b3⟩
  have h_3 := h_1.below b3
  have k_3 := k_1.below b3
  have j_3 := j_1.below b3
  have B3 := below_then B1 (Nat.le_refl _) b3
  clear h_1 k_1 j_1 B1 b3
  go_wp2_with fail
  refine (copied_at _ _ _ _ _ k_3 (by omega)).mono ?_
  rintro e w4 ⟨A4, c4, rfl, r2, b4⟩
  have h_4 := h_3.below b4
  have k_4 := k_3.below b4
  have j_4 := j_3.below b4
  have r1_4 := r1.below b4
  have B4 := below_then B3 (Nat.le_refl _) b4
  clear h_3 k_3 j_3 B3 b4
  go_wp2_with fail
  refine (add_at _ _ _ _ _ _ _ _ _ (val xs) (val ys) (val xs + val ys) rfl rfl rfl r1_4 r2 (by omega) (by omega)).mono ?_
  rintro e w5 ⟨A5, c5, rfl, s, b5⟩
  have h_5 := h_4.below b5
  have k_5 := k_4.below b5
  have j_5 := j_4.below b5
  have r1_5 := r1_4.below b5
  have r2_5 := r2.below b5
  have B5 := below_then B4 (Nat.le_refl _) b5
  clear h_4 k_4 j_4 r1_4 B4 b5
  go_wp2_with fail
  refine (radd_at _ _ _ _ _ _ _ _ _ (val xs) (val ys) (val xs + val ys) rfl rfl rfl h_5 k_5 (by omega) (by omega)).mono ?_
  rintro e w6 ⟨A6, c6, rfl, t, b6⟩
  have h_6 := h_5.below b6
  have k_6 := k_5.below b6
  have j_6 := j_5.below b6
  have s_6 := s.below b6
  have B6 := below_then B5 (Nat.le_refl _) b6
  clear h_5 k_5 j_5 B5 b6
  go_wp2_with fail
  refine (same_b _ _ _ _ _ _ _ s_6 t (by omega)).mono ?_
  rintro e w7 ⟨rfl, b7⟩
  have h_7 := h_6.below b7
  have k_7 := k_6.below b7
  have j_7 := j_6.below b7
  have s_7 := s_6.below b7
  have t_7 := t.below b7
  have B7 := below_then B6 (Nat.le_refl _) b7
  clear h_6 k_6 j_6 s_6 B6 b7
  go_wp2_with fail
  refine (add_at _ _ _ _ _ _ _ _ _ (val ys) (val xs) (val xs + val ys) rfl rfl (Nat.add_comm _ _) k_7 h_7 (by omega) (by omega)).mono ?_
  rintro e w8 ⟨A8, c8, rfl, t2, b8⟩
  have h_8 := h_7.below b8
  have k_8 := k_7.below b8
  have j_8 := j_7.below b8
  have s_8 := s_7.below b8
  have B8 := below_then B7 (Nat.le_refl _) b8
  clear h_7 k_7 j_7 s_7 B7 b8
  go_wp2_with fail
  refine (same_b _ _ _ _ _ _ _ s_8 t2 (by omega)).mono ?_
  rintro e w9 ⟨rfl, b9⟩
  have h_9 := h_8.below b9
  have k_9 := k_8.below b9
  have j_9 := j_8.below b9
  have s_9 := s_8.below b9
  have t2_9 := t2.below b9
  have B9 := below_then B8 (Nat.le_refl _) b9
  clear h_8 k_8 j_8 s_8 B8 b9
  go_wp2_with fail
  refine (add_at _ _ _ _ _ _ _ _ _ (val xs + val ys) (val zs) (val xs + val ys + val zs) (val_dg _) rfl rfl s_9 j_9 (by omega) (by omega)).mono ?_
  rintro e w10 ⟨A10, c10, rfl, u, b10⟩
  have h_10 := h_9.below b10
  have k_10 := k_9.below b10
  have j_10 := j_9.below b10
  have s_10 := s_9.below b10
  have B10 := below_then B9 (Nat.le_refl _) b10
  clear h_9 k_9 j_9 s_9 B9 b10
  go_wp2_with fail
  refine (add_at _ _ _ _ _ _ _ _ _ (val ys) (val zs) (val ys + val zs) rfl rfl rfl k_10 j_10 (by omega) (by omega)).mono ?_
  rintro e w11 ⟨A11, c11, rfl, v, b11⟩
  have h_11 := h_10.below b11
  have k_11 := k_10.below b11
  have j_11 := j_10.below b11
  have s_11 := s_10.below b11
  have u_11 := u.below b11
  have B11 := below_then B10 (Nat.le_refl _) b11
  clear h_10 k_10 j_10 s_10 B10 b11
  go_wp2_with fail
  refine (add_at _ _ _ _ _ _ _ _ _ (val xs) (val ys + val zs) (val xs + val ys + val zs) rfl (val_dg _) (Nat.add_assoc _ _ _).symm h_11 v (by omega) (by omega)).mono ?_
  rintro e w12 ⟨A12, c12, rfl, u2, b12⟩
  have h_12 := h_11.below b12
  have k_12 := k_11.below b12
  have j_12 := j_11.below b12
  have s_12 := s_11.below b12
  have u_12 := u_11.below b12
  have v_12 := v.below b12
  have B12 := below_then B11 (Nat.le_refl _) b12
  clear h_11 k_11 j_11 s_11 u_11 B11 b12
  go_wp2_with fail
  refine (same_b _ _ _ _ _ _ _ u_12 u2 (by omega)).mono ?_
  rintro e w13 ⟨rfl, b13⟩
  have h_13 := h_12.below b13
  have k_13 := k_12.below b13
  have j_13 := j_12.below b13
  have s_13 := s_12.below b13
  have u_13 := u_12.below b13
  have v_13 := v_12.below b13
  have u2_13 := u2.below b13
  have B13 := below_then B12 (Nat.le_refl _) b13
  clear h_12 k_12 j_12 s_12 u_12 v_12 B12 b13
  go_wp2
  go_ret
  exact ⟨rfl, B13⟩
end Go.Proofs.Ytllbncipadjjgaa
