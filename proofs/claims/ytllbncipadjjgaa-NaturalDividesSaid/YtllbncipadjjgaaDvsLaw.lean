/-
  The walk of NaturalDivides.
-/
import Derived.Test.YtllbncipadjjgaaDivLaw
namespace Go.Proofs.Ytllbncipadjjgaa
open Go.RowKit
set_option linter.unusedVariables false
set_option linter.unusedSimpArgs false

theorem law_dvs_long (A B C : Option Addr) (n m l c d f : Nat) (w : World) (hn : ¬ (n ≤ 6 ∧ m ≤ 6 ∧ l ≤ 6)) :
    Calls Try.prog 10 #[.slice A n c, .slice B m d, .slice C l f] w fun e w' => e = .returned (.bool true) ∧ Below w.heap.size w w' := by
  by_cases h1 : n ≤ 6
  · have d1 : decide ((6 : Int) < (n : Int)) = false := by simp; omega
    by_cases h2 : m ≤ 6
    · have d2 : decide ((6 : Int) < (m : Int)) = false := by simp; omega
      have d3 : decide ((6 : Int) < (l : Int)) = true := by simp; omega
      clear hn h1 h2
      go_enter Try.func10, Try.ntmps10
      go_wp2_with fail
      refine (awake_calls _).mono ?_
      rintro e w1 ⟨rfl, b1⟩
      go_wp2
      go_ret
      exact ⟨rfl, b1⟩
    · have d2 : decide ((6 : Int) < (m : Int)) = true := by simp; omega
      clear hn h1 h2
      go_enter Try.func10, Try.ntmps10
      go_wp2_with fail
      refine (awake_calls _).mono ?_
      rintro e w1 ⟨rfl, b1⟩
      go_wp2
      go_ret
      exact ⟨rfl, b1⟩
  · have d1 : decide ((6 : Int) < (n : Int)) = true := by simp; omega
    clear hn h1
    go_enter Try.func10, Try.ntmps10
    go_wp2_with fail
    refine (awake_calls _).mono ?_
    rintro e w1 ⟨rfl, b1⟩
    go_wp2
    go_ret
    exact ⟨rfl, b1⟩
set_option maxHeartbeats 1000000 in
theorem law_dvs_ge (A B C : Option Addr) (n m l c d f : Nat) (xs ys zs : List Nat) (w : World) (h : Rd w A n c xs) (k : Rd w B m d ys) (j : Rd w C l f zs) (hn : n ≤ 6) (hm : m ≤ 6) (hl : l ≤ 6) (hge : val ys ≤ val zs) :
    Calls Try.prog 10 #[.slice A n c, .slice B m d, .slice C l f] w fun e w' => e = .returned (.bool true) ∧ Below w.heap.size w w' := by
  have d1 : decide ((6 : Int) < (n : Int)) = false := by simp; omega
  have d2 : decide ((6 : Int) < (m : Int)) = false := by simp; omega
  have d3 : decide ((6 : Int) < (l : Int)) = false := by simp; omega
  obtain ⟨r, hr, hr0⟩ : ∃ r, sg (val zs) (val ys) = r ∧ 0 ≤ r := ⟨_, rfl, by unfold sg; rw [if_neg (by omega)]; split <;> omega⟩
  have d4 : decide (0 ≤ r) = true := by simpa using hr0
  have HR := hide hr
  clear hr hge
  go_enter Try.func10, Try.ntmps10
  go_wp2_with fail
  refine (awake_calls _).mono ?_
  rintro e w1 ⟨rfl, b1⟩
  have h_1 := h.below b1
  have k_1 := k.below b1
  have j_1 := j.below b1
  have B1 := b1
  clear b1
  go_wp2_with fail
  refine (rcmp_at _ _ _ _ _ _ _ _ _ r HR.out j_1 k_1 (by omega) (by omega)).mono ?_
  rintro e w' ⟨rfl, rfl⟩
  go_wp2
  go_ret
  exact ⟨rfl, B1⟩
set_option maxHeartbeats 1000000 in
theorem law_dvs (A B C : Option Addr) (n m l c d f : Nat) (xs ys zs : List Nat) (w : World) (h : Rd w A n c xs) (k : Rd w B m d ys) (j : Rd w C l f zs) (hn : n ≤ 6) (hm : m ≤ 6) (hl : l ≤ 6) (hlt : val zs < val ys) :
    Calls Try.prog 10 #[.slice A n c, .slice B m d, .slice C l f] w fun e w' => e = .returned (.bool true) ∧ Below w.heap.size w w' := by
  have d1 : decide ((6 : Int) < (n : Int)) = false := by simp; omega
  have d2 : decide ((6 : Int) < (m : Int)) = false := by simp; omega
  have d3 : decide ((6 : Int) < (l : Int)) = false := by simp; omega
  have lx := rd_lt h hn
  have ly := rd_lt k hm
  have lz := rd_lt j hl
  have h0 : 0 < val ys := by omega
  have l1 : (dg (val xs * val ys)).length ≤ 12 := dg_le (mul_pw lx ly)
  have l2 : (dg (val xs * val ys + val zs)).length ≤ 13 := dg_le (add_pw (mul_pw lx ly) (Nat.lt_of_lt_of_le lz (pw_mono (by omega))))
  have l3 : (dg (val xs)).length ≤ 6 := dg_le lx
  have l4 : (dg (val zs)).length ≤ 6 := dg_le lz
  have HQ := hide (show (val xs * val ys + val zs) / val ys = val xs by rw [Nat.mul_comm, Nat.mul_add_div h0, Nat.div_eq_of_lt hlt, Nat.add_zero])
  have HM := hide (show (val xs * val ys + val zs) % val ys = val zs by rw [Nat.mul_comm, Nat.mul_add_mod, Nat.mod_eq_of_lt hlt])
  have HR := hide (sg_lt hlt)
  have H0 := hide h0
  clear lx ly lz h0 hlt
  go_enter Try.func10, Try.ntmps10
  go_wp2_with fail
  refine (awake_calls _).mono ?_
  rintro e w1 ⟨rfl, b1⟩
  have h_1 := h.below b1
  have k_1 := k.below b1
  have j_1 := j.below b1
  have B1 := b1
  clear b1
  go_wp2_with fail
  refine (rcmp_at _ _ _ _ _ _ _ _ _ (-1) HR.out j_1 k_1 (by omega) (by omega)).mono ?_
  rintro e w' ⟨rfl, rfl⟩
  go_wp2_with fail
  refine (mul_at _ _ _ _ _ _ _ _ _ (val xs) (val ys) (val xs * val ys) rfl rfl rfl h_1 k_1 (by omega) (by omega)).mono ?_
  rintro e w3 ⟨A3, c3, rfl, p, b3⟩
  have h_3 := h_1.below b3
  have k_3 := k_1.below b3
  have j_3 := j_1.below b3
  have B3 := below_then B1 (Nat.le_refl _) b3
  clear h_1 k_1 j_1 B1 b3
  go_wp2_with fail
  refine (add_at _ _ _ _ _ _ _ _ _ (val xs * val ys) (val zs) (val xs * val ys + val zs) (val_dg _) rfl rfl p j_3 (by omega) (by omega)).mono ?_
  rintro e w4 ⟨A4, c4, rfl, s, b4⟩
  have h_4 := h_3.below b4
  have k_4 := k_3.below b4
  have j_4 := j_3.below b4
  have p_4 := p.below b4
  have B4 := below_then B3 (Nat.le_refl _) b4
  clear h_3 k_3 j_3 B3 b4
  go_wp2_with fail
  refine (divmod_at _ _ _ _ _ _ _ _ _ (val xs * val ys + val zs) (val ys) (val xs) (val zs) (val_dg _) rfl HQ.out HM.out H0.out s k_4 (by omega) (by omega)).mono ?_
  rintro e w5 ⟨A5, c5, D5, d5, rfl, q, r, b5⟩
  have h_5 := h_4.below b5
  have k_5 := k_4.below b5
  have j_5 := j_4.below b5
  have s_5 := s.below b5
  have B5 := below_then B4 (Nat.le_refl _) b5
  clear h_4 k_4 j_4 B4 b5
  go_wp2_with fail
  refine (rmake_calls _ _ _ _ _ h_5 (by omega)).mono ?_
  rintro e w6 ⟨A6, c6, rfl, u, b6⟩
  have h_6 := h_5.below b6
  have k_6 := k_5.below b6
  have j_6 := j_5.below b6
  have q_6 := q.below b6
  have r_6 := r.below b6
  have B6 := below_then B5 (Nat.le_refl _) b6
  clear h_5 k_5 j_5 B5 b6
  go_wp2_with fail
  refine (same_b _ _ _ _ _ _ _ q_6 u (by omega)).mono ?_
  rintro e w7 ⟨rfl, b7⟩
  have h_7 := h_6.below b7
  have k_7 := k_6.below b7
  have j_7 := j_6.below b7
  have q_7 := q_6.below b7
  have r_7 := r_6.below b7
  have u_7 := u.below b7
  have B7 := below_then B6 (Nat.le_refl _) b7
  clear h_6 k_6 j_6 q_6 r_6 B6 b7
  go_wp2_with fail
  refine (rmake_calls _ _ _ _ _ j_7 (by omega)).mono ?_
  rintro e w8 ⟨A8, c8, rfl, v, b8⟩
  have h_8 := h_7.below b8
  have k_8 := k_7.below b8
  have j_8 := j_7.below b8
  have r_8 := r_7.below b8
  have B8 := below_then B7 (Nat.le_refl _) b8
  clear h_7 k_7 j_7 r_7 B7 b8
  go_wp2_with fail
  refine (same_b _ _ _ _ _ _ _ r_8 v (by omega)).mono ?_
  rintro e w9 ⟨rfl, b9⟩
  have h_9 := h_8.below b9
  have k_9 := k_8.below b9
  have j_9 := j_8.below b9
  have r_9 := r_8.below b9
  have v_9 := v.below b9
  have B9 := below_then B8 (Nat.le_refl _) b9
  clear h_8 k_8 j_8 r_8 B8 b9
  go_wp2
  go_ret
  exact ⟨rfl, B9⟩
end Go.Proofs.Ytllbncipadjjgaa
