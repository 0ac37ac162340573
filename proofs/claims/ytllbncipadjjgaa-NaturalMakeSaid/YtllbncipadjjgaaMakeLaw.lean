/-
  The walk of NaturalMake.
-/
import Derived.Test.YtllbncipadjjgaaLaw
namespace Go.Proofs.Ytllbncipadjjgaa
open Go.RowKit
set_option linter.unusedVariables false
set_option linter.unusedSimpArgs false

theorem law_make_long (A : Option Addr) (n c : Nat) (x : Nat) (w : World) (hn : 40 < n) :
    Calls Try.prog 3 #[.slice A n c, .int .u64 (x : Int)] w fun e w' => e = .returned (.bool true) ∧ Below w.heap.size w w' := by
  go_enter Try.func3, Try.ntmps3
  go_wp2_with fail
  refine (awake_calls _).mono ?_
  rintro e w1 ⟨rfl, b1⟩
  go_wp2
  go_ret
  exact ⟨rfl, b1⟩
set_option maxHeartbeats 1000000 in
theorem law_make (A : Option Addr) (n c : Nat) (xs : List Nat) (x : Nat) (w : World) (h : Rd w A n c xs) (hx : x ≤ 18446744073709551615) (hn : n ≤ 40) :
    Calls Try.prog 3 #[.slice A n c, .int .u64 (x : Int)] w fun e w' => e = .returned (.bool true) ∧ Below w.heap.size w w' := by
  have hlen := h.len
  have hdl : (dg (val xs)).length ≤ 40 := by rw [len_dg_val h.sm]; have := tlen_le xs; omega
  obtain ⟨v, b, hvb⟩ : ∃ v b, u64Of xs = (v, b) := ⟨_, _, rfl⟩
  obtain ⟨b2, hb2⟩ : ∃ b2, decide (tlen xs = n) = b2 := ⟨_, rfl⟩
  obtain ⟨r, hr⟩ : ∃ r, nb xs = r := ⟨_, rfl⟩
  have hxl : (dg x).length ≤ 2 := len_dg_le (by show x < pw 2; simp only [pw]; omega)
  have hux : u64Of (dg x) = (x, true) := by unfold u64Of; rw [tlen_dg, if_pos hxl, val_dg]
  have hxl40 : xs.length ≤ 1048576 := by omega
  have HUX := hide hux
  have HVB := hide hvb
  have HB2 := hide hb2
  have HR := hide hr
  clear hlen hvb hb2 hr hux
  go_enter Try.func3, Try.ntmps3
  go_wp2_with fail
  refine (awake_calls _).mono ?_
  rintro e w1 ⟨rfl, b1⟩
  have h1 := h.below b1
  have B1 := b1
  clear b1
  go_wp2_with fail
  refine (copied_calls _ _ _ _ _ h1 (by omega)).mono ?_
  rintro e w2 ⟨A2, c2, rfl, k2, b2'⟩
  have h2 := h1.below b2'
  have B2 := below_then B1 (Nat.le_refl _) b2'
  clear h1 B1 b2'
  go_wp2_with fail
  refine (make_calls _ _ _ _ _ k2 hxl40).mono ?_
  rintro e w3 ⟨A3, c3, rfl, k3, b3⟩
  have h3 := h2.below b3
  have B3 := below_then B2 (Nat.le_refl _) b3
  clear h2 B2 b3 k2
  go_wp2_with fail
  refine (uint_calls _ _ _ _ _ v b HVB.out h3 (by omega)).mono ?_
  rintro e w' ⟨rfl, rfl⟩
  go_wp2_with fail
  refine (ruint_calls _ _ _ _ _ v b HVB.out h3 (by omega)).mono ?_
  rintro e w4 ⟨rfl, b4⟩
  have h4 := h3.below b4
  have k4 := k3.below b4
  have B4 := below_then B3 (Nat.le_refl _) b4
  clear h3 B3 b4 k3
  go_wp2_with fail
  refine (rmake_calls _ _ _ _ _ h4 (by omega)).mono ?_
  rintro e w5 ⟨A5, c5, rfl, k5, b5⟩
  have h5 := h4.below b5
  have k4' := k4.below b5
  have B5 := below_then B4 (Nat.le_refl _) b5
  clear h4 B4 b5 k4
  go_wp2_with fail
  refine (same_calls _ _ _ _ _ _ _ k4' k5 (by omega)).mono ?_
  rintro e w6 ⟨rfl, q, rfl⟩
  have h6 := h5.below (below_drewN (Below.refl _ _) q)
  have k6 := k4'.below (below_drewN (Below.refl _ _) q)
  have B6 := below_drewN B5 q
  clear h5 B5 k4' k5
  go_wp2_with fail
  refine (valid_calls _ _ _ _ _ h6 (by omega) b2 HB2.out).mono ?_
  rintro e w' ⟨rfl, rfl⟩
  go_wp2_with fail
  refine (rvalid_calls _ _ _ _ _ h6 (by omega) b2 HB2.out).mono ?_
  rintro e w' ⟨rfl, rfl⟩
  go_wp2_with fail
  refine (valid_calls _ _ _ _ _ k6 (by omega) true (by rw [tlen_dg]; simp)).mono ?_
  rintro e w' ⟨rfl, rfl⟩
  go_wp2_with fail
  refine (bits_calls _ _ _ _ _ r HR.out h6 (by omega)).mono ?_
  rintro e w' ⟨rfl, rfl⟩
  go_wp2_with fail
  refine (rbits_calls _ _ _ _ _ r HR.out h6 (by omega)).mono ?_
  rintro e w7 ⟨rfl, b7⟩
  have B7 := below_then B6 (Nat.le_refl _) b7
  clear h6 k6 B6 b7
  go_wp2_with fail
  refine (of_calls x _ hx).mono ?_
  rintro e w8 ⟨A8, c8, rfl, k8, b8⟩
  have B8 := below_then B7 (Nat.le_refl _) b8
  clear B7 b8
  go_wp2_with fail
  refine (uint_calls _ _ _ _ _ x true HUX.out k8 (by omega)).mono ?_
  rintro e w' ⟨rfl, rfl⟩
  go_wp2_with fail
  refine (of_calls x _ hx).mono ?_
  rintro e w9 ⟨A9, c9, rfl, k9, b9⟩
  have B9 := below_then B8 (Nat.le_refl _) b9
  clear B8 b9 k8
  go_wp2_with fail
  refine (rof_calls x _ hx).mono ?_
  rintro e w10 ⟨A10, c10, rfl, k10, b10⟩
  have k9' := k9.below b10
  have B10 := below_then B9 (Nat.le_refl _) b10
  clear B9 b10 k9
  go_wp2_with fail
  refine (same_calls _ _ _ _ _ _ _ k9' k10 (by omega)).mono ?_
  rintro e w11 ⟨rfl, q2, rfl⟩
  go_wp2
  go_ret
  exact ⟨rfl, below_drewN B10 q2⟩
end Go.Proofs.Ytllbncipadjjgaa
