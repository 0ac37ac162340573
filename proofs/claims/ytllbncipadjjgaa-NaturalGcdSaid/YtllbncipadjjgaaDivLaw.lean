/-
  The walk of NaturalDivide.
-/
import Derived.Test.YtllbncipadjjgaaMulLaw
import Derived.Test.YtllbncipadjjgaaW18
namespace Go.Proofs.Ytllbncipadjjgaa
open Go.RowKit
set_option linter.unusedVariables false
set_option linter.unusedSimpArgs false

theorem divmod_at (A B : Option Addr) (n m c d : Nat) (xs ys : List Nat) (w : World) (X Y Q R : Nat) (hx : val xs = X) (hy : val ys = Y) (hq : X / Y = Q) (hr : X % Y = R) (h0 : 0 < Y) (h : Rd w A n c xs) (h2 : Rd w B m d ys) (hn : n ≤ 65536) (hm : m ≤ 65536) :
    Calls Try.prog 38 #[.slice A n c, .slice B m d] w (Gives3 w (dg Q) (dg R) 0) := by
  subst hx hy hq hr
  exact divmod_calls A B n m c d xs ys w h h2 hn hm h0
theorem dm0_at (A B : Option Addr) (n m c d : Nat) (xs ys : List Nat) (w : World) (h0 : val ys = 0) (h : Rd w A n c xs) (h2 : Rd w B m d ys) (hn : n ≤ 65536) (hm : m ≤ 65536) :
    Calls Try.prog 38 #[.slice A n c, .slice B m d] w fun e w' => ∃ A1 c1 B1 d1, e = .returned (.tuple #[.slice A1 0 c1, .slice B1 0 d1, .int .i64 3]) ∧ Rd w' A1 0 c1 [] ∧ Rd w' B1 0 d1 [] ∧ Below w.heap.size w w' :=
  dm_zero A B n m c d xs ys w h h2 hn hm h0
theorem rmake_len (A : Option Addr) (n c : Nat) (xs : List Nat) (w : World) (L : Nat) (hL : (dg (val xs)).length = L) (h : Rd w A n c xs) (hn : n ≤ 4194304) :
    Calls Try.prog 18 #[.slice A n c] w fun e w' => ∃ A1 c1, e = .returned (.slice A1 L c1) ∧ Rd w' A1 L c1 (dg (val xs)) ∧ Below w.heap.size w w' := by
  subst hL
  exact rmake_calls A n c xs w h hn
theorem rcmp_at (A B : Option Addr) (n m c d : Nat) (xs ys : List Nat) (w : World) (r : Int) (hr : sg (val xs) (val ys) = r) (h : Rd w A n c xs) (h2 : Rd w B m d ys) (hn : n ≤ 1048576) (hm : m ≤ 1048576) :
    Calls Try.prog 27 #[.slice A n c, .slice B m d] w fun e w' => e = .returned (.int .i64 r) ∧ w = w' := rcmp_calls A B n m c d xs ys w r h h2 hn hm hr
theorem law_div_long (A B : Option Addr) (n m c d : Nat) (w : World) (hn : ¬ (n ≤ 8 ∧ m ≤ 8)) :
    Calls Try.prog 9 #[.slice A n c, .slice B m d] w fun e w' => e = .returned (.bool true) ∧ Below w.heap.size w w' := by
  by_cases h1 : n ≤ 8
  · have d1 : decide ((8 : Int) < (n : Int)) = false := by simp; omega
    have d2 : decide ((8 : Int) < (m : Int)) = true := by simp; omega
    clear hn h1
    go_enter Try.func9, Try.ntmps9
    go_wp2_with fail
    refine (awake_calls _).mono ?_
    rintro e w1 ⟨rfl, b1⟩
    go_wp2
    go_ret
    exact ⟨rfl, b1⟩
  · have d1 : decide ((8 : Int) < (n : Int)) = true := by simp; omega
    clear hn h1
    go_enter Try.func9, Try.ntmps9
    go_wp2_with fail
    refine (awake_calls _).mono ?_
    rintro e w1 ⟨rfl, b1⟩
    go_wp2
    go_ret
    exact ⟨rfl, b1⟩
set_option maxHeartbeats 1000000 in
theorem law_div_zero (A B : Option Addr) (n m c d : Nat) (xs ys : List Nat) (w : World) (h : Rd w A n c xs) (k : Rd w B m d ys) (hn : n ≤ 8) (hm : m ≤ 8) (h0 : val ys = 0) :
    Calls Try.prog 9 #[.slice A n c, .slice B m d] w fun e w' => e = .returned (.bool true) ∧ Below w.heap.size w w' := by
  have d1 : decide ((8 : Int) < (n : Int)) = false := by simp; omega
  have d2 : decide ((8 : Int) < (m : Int)) = false := by simp; omega
  have H0 := hide h0
  have HL := hide (show (dg (val ys)).length = 0 by rw [h0]; rfl)
  clear h0
  go_enter Try.func9, Try.ntmps9
  go_wp2_with fail
  refine (awake_calls _).mono ?_
  rintro e w1 ⟨rfl, b1⟩
  have h_1 := h.below b1
  have k_1 := k.below b1
  have B1 := b1
  clear b1
  go_wp2_with fail
  refine (copied_at _ _ _ _ _ h_1 (by omega)).mono ?_
  rintro e w2 ⟨A2, c2, rfl, r1, b2⟩
  have h_2 := h_1.below b2
  have k_2 := k_1.below b2
  have B2 := below_then B1 (Nat.le_refl _) b2
  clear h_1 k_1 B1 b2
  go_wp2_with fail
  refine (copied_at _ _ _ _ _ k_2 (by omega)).mono ?_
  rintro e w3 ⟨A3, c3, rfl, r2, b3⟩
  have h_3 := h_2.below b3
  have k_3 := k_2.below b3
  have r1_3 := r1.below b3
  have B3 := below_then B2 (Nat.le_refl _) b3
  clear h_2 k_2 B2 b3
  go_wp2_with fail
  refine (dm0_at _ _ _ _ _ _ _ _ _ H0.out r1_3 r2 (by omega) (by omega)).mono ?_
  rintro e w4 ⟨A4, c4, D4, d4, rfl, q, r, b4⟩
  have h_4 := h_3.below b4
  have k_4 := k_3.below b4
  have r1_4 := r1_3.below b4
  have r2_4 := r2.below b4
  have B4 := below_then B3 (Nat.le_refl _) b4
  clear h_3 k_3 r1_3 B3 b4
  go_wp2_with fail
  refine (rmake_len _ _ _ _ _ 0 HL.out k_4 (by omega)).mono ?_
  rintro e w5 ⟨A5, c5, rfl, z, b5⟩
  have h_5 := h_4.below b5
  have k_5 := k_4.below b5
  have B5 := below_then B4 (Nat.le_refl _) b5
  clear h_4 k_4 B4 b5
  go_wp2
  go_ret
  exact ⟨rfl, B5⟩
set_option maxHeartbeats 1000000 in
theorem law_div (A B : Option Addr) (n m c d : Nat) (xs ys : List Nat) (w : World) (h : Rd w A n c xs) (k : Rd w B m d ys) (hn : n ≤ 8) (hm : m ≤ 8) (h0 : 0 < val ys) :
    Calls Try.prog 9 #[.slice A n c, .slice B m d] w fun e w' => e = .returned (.bool true) ∧ Below w.heap.size w w' := by
  have d1 : decide ((8 : Int) < (n : Int)) = false := by simp; omega
  have d2 : decide ((8 : Int) < (m : Int)) = false := by simp; omega
  have lx := rd_lt h hn
  have ly := rd_lt k hm
  have l1 : (dg (val xs / val ys)).length ≤ 8 := dg_le (Nat.lt_of_le_of_lt (Nat.div_le_self _ _) lx)
  have l2 : (dg (val xs % val ys)).length ≤ 8 := dg_le (Nat.lt_trans (Nat.mod_lt _ h0) ly)
  have l3 : (dg (val xs / val ys * val ys)).length ≤ 8 := dg_le (Nat.lt_of_le_of_lt (Nat.div_mul_le_self _ _) lx)
  have l4 : (dg (val xs)).length ≤ 8 := dg_le lx
  have HS := hide (show sg (val (dg (val xs % val ys))) (val ys) = -1 by rw [val_dg]; exact sg_lt (Nat.mod_lt _ h0))
  have HE := hide (show val xs / val ys * val ys + val xs % val ys = val xs by rw [Nat.mul_comm]; exact Nat.div_add_mod _ _)
  have H0 := hide h0
  obtain ⟨L, hL⟩ : ∃ L, (dg (val ys)).length = L := ⟨_, rfl⟩
  have e0 : ((L : Int) == 0) = false := by
    have : L ≠ 0 := fun e => by
      rw [e] at hL
      have := dg_nil_iff.1 (List.eq_nil_of_length_eq_zero hL)
      omega
    simp; omega
  have HL := hide hL
  clear lx ly h0 hL
  go_enter Try.func9, Try.ntmps9
  go_wp2_with fail
  refine (awake_calls _).mono ?_
  rintro e w1 ⟨rfl, b1⟩
  have h_1 := h.below b1
  have k_1 := k.below b1
  have B1 := b1
  clear b1
  go_wp2_with fail
  refine (copied_at _ _ _ _ _ h_1 (by omega)).mono ?_
  rintro e w2 ⟨A2, c2, rfl, r1, b2⟩
  have h_2 := h_1.below b2
  have k_2 := k_1.below b2
  have B2 := below_then B1 (Nat.le_refl _) b2
  clear h_1 k_1 B1 b2
  go_wp2_with fail
  refine (copied_at _ _ _ _ _ k_2 (by omega)).mono ?_
  rintro e w3 ⟨A3, c3, rfl, r2, b3⟩
  have h_3 := h_2.below b3
  have k_3 := k_2.below b3
  have r1_3 := r1.below b3
  have B3 := below_then B2 (Nat.le_refl _) b3
  clear h_2 k_2 B2 b3
  go_wp2_with fail
  refine (divmod_at _ _ _ _ _ _ _ _ _ (val xs) (val ys) (val xs / val ys) (val xs % val ys) rfl rfl rfl rfl H0.out r1_3 r2 (by omega) (by omega)).mono ?_
  rintro e w4 ⟨A4, c4, D4, d4, rfl, q, r, b4⟩
  have h_4 := h_3.below b4
  have k_4 := k_3.below b4
  have r1_4 := r1_3.below b4
  have r2_4 := r2.below b4
  have B4 := below_then B3 (Nat.le_refl _) b4
  clear h_3 k_3 r1_3 B3 b4
  go_wp2_with fail
  refine (rmake_len _ _ _ _ _ L HL.out k_4 (by omega)).mono ?_
  rintro e w5 ⟨A5, c5, rfl, z, b5⟩
  have h_5 := h_4.below b5
  have k_5 := k_4.below b5
  have q_5 := q.below b5
  have r_5 := r.below b5
  have B5 := below_then B4 (Nat.le_refl _) b5
  clear h_4 k_4 B4 b5
  go_wp2_with fail
  refine (valid_calls _ _ _ _ _ q_5 (by omega) true (by rw [tlen_dg]; simp)).mono ?_
  rintro e w' ⟨rfl, rfl⟩
  go_wp2_with fail
  refine (valid_calls _ _ _ _ _ r_5 (by omega) true (by rw [tlen_dg]; simp)).mono ?_
  rintro e w' ⟨rfl, rfl⟩
  go_wp2_with fail
  refine (rcmp_at _ _ _ _ _ _ _ _ _ (-1) HS.out r_5 k_5 (by omega) (by omega)).mono ?_
  rintro e w' ⟨rfl, rfl⟩
  go_wp2_with fail
  refine (rmul_at _ _ _ _ _ _ _ _ _ (val xs / val ys) (val ys) (val xs / val ys * val ys) (val_dg _) rfl rfl q_5 k_5 (by omega) (by omega)).mono ?_
  rintro e w9 ⟨A9, c9, rfl, p, b9⟩
  have h_9 := h_5.below b9
  have k_9 := k_5.below b9
  have q_9 := q_5.below b9
  have r_9 := r_5.below b9
  have B9 := below_then B5 (Nat.le_refl _) b9
  clear h_5 k_5 q_5 r_5 B5 b9
  go_wp2_with fail
  refine (radd_at _ _ _ _ _ _ _ _ _ (val xs / val ys * val ys) (val xs % val ys) (val xs) (val_dg _) (val_dg _) HE.out p r_9 (by omega) (by omega)).mono ?_
  rintro e w10 ⟨A10, c10, rfl, s, b10⟩
  have h_10 := h_9.below b10
  have k_10 := k_9.below b10
  have q_10 := q_9.below b10
  have r_10 := r_9.below b10
  have p_10 := p.below b10
  have B10 := below_then B9 (Nat.le_refl _) b10
  clear h_9 k_9 q_9 r_9 B9 b10
  go_wp2_with fail
  refine (rcmp_at _ _ _ _ _ _ _ _ _ 0 (by rw [val_dg]; exact sg_eq rfl) s h_10 (by omega) (by omega)).mono ?_
  rintro e w' ⟨rfl, rfl⟩
  go_wp2
  go_ret
  exact ⟨rfl, B10⟩
end Go.Proofs.Ytllbncipadjjgaa
