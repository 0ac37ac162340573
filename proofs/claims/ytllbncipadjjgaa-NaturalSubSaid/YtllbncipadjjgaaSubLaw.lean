/-
  The walk of NaturalSub.
-/
import Derived.Test.YtllbncipadjjgaaAddLaw
namespace Go.Proofs.Ytllbncipadjjgaa
open Go.RowKit
set_option linter.unusedVariables false
set_option linter.unusedSimpArgs false

theorem sub_at (A B : Option Addr) (n m c d : Nat) (xs ys : List Nat) (w : World) (X Y Z : Nat) (hx : val xs = X) (hy : val ys = Y) (hz : X - Y = Z) (hle : Y ≤ X) (h : Rd w A n c xs) (h2 : Rd w B m d ys) (hn : n ≤ 1048576) (hm : m ≤ 1048576) :
    Calls Try.prog 30 #[.slice A n c, .slice B m d] w (GivesE w (dg Z) 0) := by
  subst hx hy hz
  exact sub_ge A B n m c d xs ys w h h2 hn hm hle
theorem sub_e0 (A B : Option Addr) (n m c d : Nat) (xs ys : List Nat) (w : World) (h : Rd w A n c xs) (h2 : Rd w B m d ys) (hn : n ≤ 1048576) (hm : m ≤ 1048576) (hlt : val xs < val ys) :
    Calls Try.prog 30 #[.slice A n c, .slice B m d] w fun e w' => ∃ A1 c1, e = .returned (.tuple #[.slice A1 0 c1, .int .i64 2]) ∧ Rd w' A1 0 c1 [] ∧ Below w.heap.size w w' := sub_lt A B n m c d xs ys w h h2 hn hm hlt
theorem rsub_e0 (A B : Option Addr) (n m c d : Nat) (xs ys : List Nat) (w : World) (h : Rd w A n c xs) (h2 : Rd w B m d ys) (hn : n ≤ 1048576) (hm : m ≤ 1048576) (hlt : val xs < val ys) :
    Calls Try.prog 31 #[.slice A n c, .slice B m d] w fun e w' => ∃ A1 c1, e = .returned (.tuple #[.slice A1 0 c1, .int .i64 2]) ∧ Rd w' A1 0 c1 [] ∧ Below w.heap.size w w' := rsub_lt A B n m c d xs ys w h h2 hn hm hlt
theorem law_sub_long (A B : Option Addr) (n m c d : Nat) (w : World) (hn : ¬ (n ≤ 12 ∧ m ≤ 12)) :
    Calls Try.prog 6 #[.slice A n c, .slice B m d] w fun e w' => e = .returned (.bool true) ∧ Below w.heap.size w w' := by
  have HF := hide (fun W => few_calls A B n m c d W false (by simpa using hn))
  clear hn
  go_enter Try.func6, Try.ntmps6
  go_wp2_with fail
  refine (awake_calls _).mono ?_
  rintro e w1 ⟨rfl, b1⟩
  go_wp2_with fail
  refine (unhide HF _).mono ?_
  rintro e w' ⟨rfl, rfl⟩
  go_wp2
  go_ret
  exact ⟨rfl, b1⟩
set_option maxHeartbeats 1000000 in
theorem law_sub_lt (A B : Option Addr) (n m c d : Nat) (xs ys : List Nat) (w : World) (h : Rd w A n c xs) (k : Rd w B m d ys) (hn : n ≤ 12) (hm : m ≤ 12) (hlt : val xs < val ys) :
    Calls Try.prog 6 #[.slice A n c, .slice B m d] w fun e w' => e = .returned (.bool true) ∧ Below w.heap.size w w' := by
  have HF := hide (fun W => few_calls A B n m c d W true (by simp; omega))
  have lx := rd_lt h hn
  have ly := rd_lt k hm
  have l1 : (dg (val xs + val ys)).length ≤ 13 := dg_le (add_pw lx ly)
  have l2 : (dg (val xs)).length ≤ 12 := dg_le lx
  have l3 : (dg (val xs - val ys)).length ≤ 12 := dg_le (Nat.lt_of_le_of_lt (Nat.sub_le _ _) lx)
  have HLT := hide hlt
  clear lx ly hlt
  go_enter Try.func6, Try.ntmps6
  go_wp2_with fail
  refine (awake_calls _).mono ?_
  rintro e w1 ⟨rfl, b1⟩
  have h_1 := h.below b1
  have k_1 := k.below b1
  have B1 := b1
  clear b1
  go_wp2_with fail
  refine (unhide HF _).mono ?_
  rintro e w' ⟨rfl, rfl⟩
  go_wp2_with fail
  refine (sub_e0 _ _ _ _ _ _ _ _ _ h_1 k_1 (by omega) (by omega) HLT.out).mono ?_
  rintro e w3 ⟨A3, c3, rfl, r1, b3⟩
  have h_3 := h_1.below b3
  have k_3 := k_1.below b3
  have B3 := below_then B1 (Nat.le_refl _) b3
  clear h_1 k_1 B1 b3
  go_wp2_with fail
  refine (rsub_e0 _ _ _ _ _ _ _ _ _ h_3 k_3 (by omega) (by omega) HLT.out).mono ?_
  rintro e w4 ⟨A4, c4, rfl, r2, b4⟩
  have h_4 := h_3.below b4
  have k_4 := k_3.below b4
  have r1_4 := r1.below b4
  have B4 := below_then B3 (Nat.le_refl _) b4
  clear h_3 k_3 B3 b4
  go_wp2_with fail
  refine (add_at _ _ _ _ _ _ _ _ _ (val xs) (val ys) (val xs + val ys) rfl rfl rfl h_4 k_4 (by omega) (by omega)).mono ?_
  rintro e w5 ⟨A5, c5, rfl, s, b5⟩
  have h_5 := h_4.below b5
  have k_5 := k_4.below b5
  have r1_5 := r1_4.below b5
  have r2_5 := r2.below b5
  have B5 := below_then B4 (Nat.le_refl _) b5
  clear h_4 k_4 r1_4 B4 b5
  go_wp2_with fail
  refine (sub_at _ _ _ _ _ _ _ _ _ (val xs + val ys) (val ys) (val xs) (val_dg _) rfl (Nat.add_sub_cancel _ _) (Nat.le_add_left _ _) s k_5 (by omega) (by omega)).mono ?_
  rintro e w6 ⟨A6, c6, rfl, t, b6⟩
  have h_6 := h_5.below b6
  have k_6 := k_5.below b6
  have r1_6 := r1_5.below b6
  have r2_6 := r2_5.below b6
  have s_6 := s.below b6
  have B6 := below_then B5 (Nat.le_refl _) b6
  clear h_5 k_5 r1_5 r2_5 B5 b6
  go_wp2_with fail
  refine (same_b _ _ _ _ _ _ _ r1_6 r2_6 (by omega)).mono ?_
  rintro e w7 ⟨rfl, b7⟩
  have h_7 := h_6.below b7
  have k_7 := k_6.below b7
  have r1_7 := r1_6.below b7
  have r2_7 := r2_6.below b7
  have t_7 := t.below b7
  have B7 := below_then B6 (Nat.le_refl _) b7
  clear h_6 k_6 r1_6 r2_6 B6 b7
  go_wp2_with fail
  refine (rmake_calls _ _ _ _ _ h_7 (by omega)).mono ?_
  rintro e w8 ⟨A8, c8, rfl, u, b8⟩
  have h_8 := h_7.below b8
  have k_8 := k_7.below b8
  have t_8 := t_7.below b8
  have B8 := below_then B7 (Nat.le_refl _) b8
  clear h_7 k_7 t_7 B7 b8
  go_wp2_with fail
  refine (same_b _ _ _ _ _ _ _ t_8 u (by omega)).mono ?_
  rintro e w9 ⟨rfl, b9⟩
  have h_9 := h_8.below b9
  have k_9 := k_8.below b9
  have t_9 := t_8.below b9
  have u_9 := u.below b9
  have B9 := below_then B8 (Nat.le_refl _) b9
  clear h_8 k_8 t_8 B8 b9
  go_wp2
  go_ret
  exact ⟨rfl, B9⟩
set_option maxHeartbeats 1000000 in
theorem law_sub_ge (A B : Option Addr) (n m c d : Nat) (xs ys : List Nat) (w : World) (h : Rd w A n c xs) (k : Rd w B m d ys) (hn : n ≤ 12) (hm : m ≤ 12) (hlt : val ys ≤ val xs) :
    Calls Try.prog 6 #[.slice A n c, .slice B m d] w fun e w' => e = .returned (.bool true) ∧ Below w.heap.size w w' := by
  have HF := hide (fun W => few_calls A B n m c d W true (by simp; omega))
  have lx := rd_lt h hn
  have ly := rd_lt k hm
  have l1 : (dg (val xs + val ys)).length ≤ 13 := dg_le (add_pw lx ly)
  have l2 : (dg (val xs)).length ≤ 12 := dg_le lx
  have l3 : (dg (val xs - val ys)).length ≤ 12 := dg_le (Nat.lt_of_le_of_lt (Nat.sub_le _ _) lx)
  have HLT := hide hlt
  clear lx ly hlt
  go_enter Try.func6, Try.ntmps6
  go_wp2_with fail
  refine (awake_calls _).mono ?_
  rintro e w1 ⟨rfl, b1⟩
  have h_1 := h.below b1
  have k_1 := k.below b1
  have B1 := b1
  clear b1
  go_wp2_with fail
  refine (unhide HF _).mono ?_
  rintro e w' ⟨rfl, rfl⟩
  go_wp2_with fail
  refine (sub_at _ _ _ _ _ _ _ _ _ _ _ (val xs - val ys) rfl rfl rfl HLT.out h_1 k_1 (by omega) (by omega)).mono ?_
  rintro e w3 ⟨A3, c3, rfl, r1, b3⟩
  have h_3 := h_1.below b3
  have k_3 := k_1.below b3
  have B3 := below_then B1 (Nat.le_refl _) b3
  clear h_1 k_1 B1 b3
  go_wp2_with fail
  refine (rsub_ge _ _ _ _ _ _ _ _ _ h_3 k_3 (by omega) (by omega) HLT.out).mono ?_
  rintro e w4 ⟨A4, c4, rfl, r2, b4⟩
  have h_4 := h_3.below b4
  have k_4 := k_3.below b4
  have r1_4 := r1.below b4
  have B4 := below_then B3 (Nat.le_refl _) b4
  clear h_3 k_3 B3 b4
  go_wp2_with fail
  refine (add_at _ _ _ _ _ _ _ _ _ (val xs) (val ys) (val xs + val ys) rfl rfl rfl h_4 k_4 (by omega) (by omega)).mono ?_
  rintro e w5 ⟨A5, c5, rfl, s, b5⟩
  have h_5 := h_4.below b5
  have k_5 := k_4.below b5
  have r1_5 := r1_4.below b5
  have r2_5 := r2.below b5
  have B5 := below_then B4 (Nat.le_refl _) b5
  clear h_4 k_4 r1_4 B4 b5
  go_wp2_with fail
  refine (sub_at _ _ _ _ _ _ _ _ _ (val xs + val ys) (val ys) (val xs) (val_dg _) rfl (Nat.add_sub_cancel _ _) (Nat.le_add_left _ _) s k_5 (by omega) (by omega)).mono ?_
  rintro e w6 ⟨A6, c6, rfl, t, b6⟩
  have h_6 := h_5.below b6
  have k_6 := k_5.below b6
  have r1_6 := r1_5.below b6
  have r2_6 := r2_5.below b6
  have s_6 := s.below b6
  have B6 := below_then B5 (Nat.le_refl _) b6
  clear h_5 k_5 r1_5 r2_5 B5 b6
  go_wp2_with fail
  refine (same_b _ _ _ _ _ _ _ r1_6 r2_6 (by omega)).mono ?_
  rintro e w7 ⟨rfl, b7⟩
  have h_7 := h_6.below b7
  have k_7 := k_6.below b7
  have r1_7 := r1_6.below b7
  have r2_7 := r2_6.below b7
  have t_7 := t.below b7
  have B7 := below_then B6 (Nat.le_refl _) b7
  clear h_6 k_6 r1_6 r2_6 B6 b7
  go_wp2_with fail
  refine (rmake_calls _ _ _ _ _ h_7 (by omega)).mono ?_
  rintro e w8 ⟨A8, c8, rfl, u, b8⟩
  have h_8 := h_7.below b8
  have k_8 := k_7.below b8
  have t_8 := t_7.below b8
  have B8 := below_then B7 (Nat.le_refl _) b8
  clear h_7 k_7 t_7 B7 b8
  go_wp2_with fail
  refine (same_b _ _ _ _ _ _ _ t_8 u (by omega)).mono ?_
  rintro e w9 ⟨rfl, b9⟩
  have h_9 := h_8.below b9
  have k_9 := k_8.below b9
  have t_9 := t_8.below b9
  have u_9 := u.below b9
  have B9 := below_then B8 (Nat.le_refl _) b9
  clear h_8 k_8 t_8 B8 b9
  go_wp2
  go_ret
  exact ⟨rfl, B9⟩
end Go.Proofs.Ytllbncipadjjgaa
