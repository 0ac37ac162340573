/-
  window.
-/
import Derived.Test.YtllbncipadjjgaaW25
namespace Go.Proofs.Ytllbncipadjjgaa
open Go.RowKit
set_option linter.unusedVariables false
set_option linter.unusedSimpArgs false

theorem win_math {xs : List Nat} {s : Nat} (hs : Sm xs) (h : val xs < 2 ^ (s + 64)) :
    lim xs (s / 32 + 2) * 2 ^ (64 - s % 32) < 18446744073709551616 ∧
    val xs / 2 ^ s = (lim xs (s / 32) + 4294967296 * lim xs (s / 32 + 1)) / 2 ^ (s % 32) + lim xs (s / 32 + 2) * 2 ^ (64 - s % 32) ∧
    (lim xs (s / 32) + 4294967296 * lim xs (s / 32 + 1)) / 2 ^ (s % 32) < 2 ^ (64 - s % 32) := by
  have e1 : 2 ^ (s + 64) = pw (s / 32) * (2 ^ (s % 32) * 18446744073709551616) := by
    rw [Nat.pow_add, pow_split s, Nat.mul_assoc]
  have e2 : 2 ^ (s % 32) * 2 ^ (64 - s % 32) = 18446744073709551616 := by rw [← Nat.pow_add, show s % 32 + (64 - s % 32) = 64 by omega]
  have hp := Nat.two_pow_pos (s % 32)
  have hd : val (xs.drop (s / 32)) < 2 ^ (s % 32) * 18446744073709551616 := by
    rw [val_drop xs hs]
    apply Nat.div_lt_of_lt_mul
    rw [← e1]
    exact h
  have h3 := val_two_more (xs.drop (s / 32))
  rw [lim_drop, lim_drop, List.drop_drop, Nat.add_zero] at h3
  have l0 := hs.lim (s / 32)
  have l1 := hs.lim (s / 32 + 1)
  have h31 : 2 ^ (s % 32) ≤ 2147483648 := by
    have := Nat.pow_le_pow_right (n := 2) (by omega) (show s % 32 ≤ 31 by omega)
    simpa using this
  have h4 : val (xs.drop (s / 32 + 2)) < 2 ^ (s % 32) := by omega
  have h5 : val (xs.drop (s / 32 + 2)) = lim xs (s / 32 + 2) := by
    rcases Nat.lt_or_ge (s / 32 + 2) xs.length with hl | hl
    · have := val_cons_drop hl
      omega
    · rw [List.drop_of_length_le hl, lim_of_ge hl]; rfl
  rw [h5] at h3 h4
  refine ⟨?_, ?_, ?_⟩
  · rw [← e2]
    exact Nat.mul_lt_mul_of_pos_right h4 (Nat.two_pow_pos _)
  · have e3 : val xs / 2 ^ s = val (xs.drop (s / 32)) / 2 ^ (s % 32) := (shr_whole hs s).symm
    rw [e3, h3, ← e2, Nat.mul_assoc, Nat.add_mul_div_left _ _ hp, Nat.mul_comm (2 ^ (64 - s % 32))]
  · apply Nat.div_lt_of_lt_mul
    rw [e2]
    omega
theorem win_calls (A : Option Addr) (n c : Nat) (xs : List Nat) (w : World) (s r : Nat) (h : Rd w A n c xs) (hs : s ≤ 67108864) (hv : val xs < 2 ^ (s + 64)) (hr : val xs / 2 ^ s = r) :
    Calls Try.prog 62 #[.slice A n c, .int .i64 (s : Int)] w fun e w' => e = .returned (.int .u64 (r : Int)) ∧ ∃ q, w' = w.drewN q := by
  obtain ⟨m1, m2, m3⟩ := win_math h.sm hv
  rw [hr] at m2
  have l0 := h.sm.lim (s / 32)
  have l1 := h.sm.lim (s / 32 + 1)
  have l2 := h.sm.lim (s / 32 + 2)
  have H0 := hide (show (s : Int) / 32 = ((s / 32 : Nat) : Int) by omega)
  have H1 := hide (show (s : Int) / 32 + 1 = ((s / 32 + 1 : Nat) : Int) by omega)
  have H2 := hide (show (s : Int) / 32 + 2 = ((s / 32 + 2 : Nat) : Int) by omega)
  have hz := or_hi l0 l1
  obtain ⟨z, hzz⟩ : ∃ z, z = lim xs (s / 32) + 4294967296 * lim xs (s / 32 + 1) := ⟨_, rfl⟩
  rw [← hzz] at hz m2 m3
  have M := hide (And.intro m1 (And.intro m2 m3))
  clear hv hr hzz m1 m2 m3
  have hb : ∀ q, Rd (w.drewN q) A n c xs := fun q => h.below (below_drewN (Below.refl _ _) q)
  have HB := hide hb
  clear hb
  go_enter Try.func62, Try.ntmps62
  go_wp2
  go_quiet (first
    | (go_at_call 47; exact quiet_left (limb_int A n c xs _ _ (s / 32) H0.out (HB.out _)))
    | (go_at_call 47; exact quiet_left (limb_int A n c xs _ _ (s / 32 + 1) H1.out (HB.out _)))
    | (go_at_call 47; exact quiet_left (limb_int A n c xs _ _ (s / 32 + 2) H2.out (HB.out _))))
  go_wp2
  go_ret
  refine ⟨?_, _, rfl⟩
  show Ending.returned (.int .u64 (bits .or .u64 ((z : Int) / 2 ^ (s % 32)) (IntKind.u64.wrap ((lim xs (s / 32 + 2) : Int) * 2 ^ (64 - s % 32))))) = _
  refine ret_int ?_
  have k1 := M.out.1
  have k2 := M.out.2.1
  have k3 := M.out.2.2
  have e1 : (z : Int) / 2 ^ (s % 32) = ((z / 2 ^ (s % 32) : Nat) : Int) := by simp
  have e3 : ((lim xs (s / 32 + 2) * 2 ^ (64 - s % 32) : Nat) : Int) = (lim xs (s / 32 + 2) : Int) * 2 ^ (64 - s % 32) := by simp
  have e2 : IntKind.u64.wrap ((lim xs (s / 32 + 2) : Int) * 2 ^ (64 - s % 32)) = ((lim xs (s / 32 + 2) * 2 ^ (64 - s % 32) : Nat) : Int) := by
    rw [IntWalk.u64_in _ (by omega), e3]
  have hz2 : z / 2 ^ (s % 32) < 18446744073709551616 := by
    have h6 : 2 ^ (64 - s % 32) ≤ 2 ^ 64 := Nat.pow_le_pow_right (by omega) (by omega)
    have h7 : (2 : Nat) ^ 64 = 18446744073709551616 := by decide
    omega
  rw [e1, e2, u64_or_nat _ _ hz2 k1, k2, Nat.mul_comm (lim xs (s / 32 + 2)), or_add k3]
end Go.Proofs.Ytllbncipadjjgaa
