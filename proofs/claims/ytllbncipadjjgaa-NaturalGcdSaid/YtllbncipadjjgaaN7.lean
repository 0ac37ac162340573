/-
  Plain facts on division bit by bit.
-/
import Derived.Test.YtllbncipadjjgaaN6
import Derived.Test.YtllbncipadjjgaaN3
namespace Go.Proofs.Ytllbncipadjjgaa
set_option linter.unusedVariables false
set_option linter.unusedSimpArgs false

theorem val_set {xs : List Nat} {k v : Nat} (h : k < xs.length) : val (xs.set k v) + pw k * lim xs k = val xs + pw k * v := by
  have h1 := val_split (xs.set k v) (k + 1) (by rw [List.length_set]; omega)
  have h2 := val_split xs (k + 1) (by omega)
  rw [List.drop_set, if_pos (by omega), pv_set h] at h1
  rw [pv_succ] at h2
  omega
theorem two_succ (j : Nat) : 2 ^ (j + 1) = 2 ^ j * 2 := Nat.pow_succ 2 j
theorem bit_of {xs : List Nat} (hs : Sm xs) (j : Nat) : lim xs (j / 32) / 2 ^ (j % 32) % 2 = val xs / 2 ^ j % 2 := by
  rw [← shr_whole hs j]
  have e : val (xs.drop (j / 32)) = lim xs (j / 32) + 4294967296 * val ((xs.drop (j / 32)).drop 1) := by
    rcases Nat.lt_or_ge (j / 32) xs.length with h | h
    · rw [val_cons_drop h, List.drop_drop]
    · rw [List.drop_of_length_le h, lim_of_ge h]; rfl
  rw [e]
  have h32 := pow32 (s := j % 32) (by omega)
  have hp := Nat.two_pow_pos (j % 32)
  rw [← h32, Nat.mul_assoc, Nat.add_mul_div_left _ _ hp, show 32 - j % 32 = (31 - j % 32) + 1 by omega, two_succ, Nat.mul_assoc, Nat.mul_left_comm, Nat.add_mul_mod_self_left]
def BdInv (Qs : List Nat) (X Y n j r : Nat) : Prop := Qs.length = n ∧ Sm Qs ∧ r = X / 2 ^ j % Y ∧ val Qs = 2 ^ j * (X / 2 ^ j / Y)
theorem bd_start {X Y j : Nat} (n : Nat) (h : X < 2 ^ j) : BdInv (List.replicate n 0) X Y n j 0 := by
  refine ⟨List.length_replicate, Sm.replicate _, ?_, ?_⟩
  · rw [Nat.div_eq_of_lt h, Nat.zero_mod]
  · rw [Nat.div_eq_of_lt h, Nat.zero_div, Nat.mul_zero, val_replicate]
theorem bd_parts {X Y j r : Nat} (hY : 0 < Y) (hr : r = X / 2 ^ (j + 1) % Y) : X / 2 ^ j = (r * 2 + X / 2 ^ j % 2) + Y * (2 * (X / 2 ^ (j + 1) / Y)) ∧ r < Y := by
  have e : X / 2 ^ j / 2 = X / 2 ^ (j + 1) := by rw [Nat.div_div_eq_div_mul, two_succ]
  have h1 := Nat.div_add_mod (X / 2 ^ j) 2
  have h2 := Nat.div_add_mod (X / 2 ^ (j + 1)) Y
  have h3 := Nat.mod_lt (X / 2 ^ (j + 1)) hY
  rw [← hr] at h2 h3
  rw [e] at h1
  refine ⟨?_, h3⟩
  rw [Nat.mul_left_comm]
  omega
theorem bd_low {Qs : List Nat} {X Y n j r b : Nat} (hY : 0 < Y) (hb : b = X / 2 ^ j % 2) (h : BdInv Qs X Y n (j + 1) r) (hlt : r * 2 + b < Y) : BdInv Qs X Y n j (r * 2 + b) := by
  obtain ⟨h1, h2, h3, h4⟩ := h
  obtain ⟨e, hr⟩ := bd_parts hY h3
  rw [← hb] at e
  refine ⟨h1, h2, ?_, ?_⟩
  · rw [e, Nat.add_mul_mod_self_left, Nat.mod_eq_of_lt hlt]
  · rw [h4, e, Nat.add_mul_div_left _ _ hY, Nat.div_eq_of_lt hlt, two_succ, Nat.zero_add, Nat.mul_assoc]
theorem bd_high {Qs : List Nat} {X Y n j r b : Nat} (hY : 0 < Y) (hb : b = X / 2 ^ j % 2) (h : BdInv Qs X Y n (j + 1) r) (hge : Y ≤ r * 2 + b) (hj : j / 32 < n) :
    BdInv (Qs.set (j / 32) (lim Qs (j / 32) + 2 ^ (j % 32))) X Y n j (r * 2 + b - Y) ∧ lim Qs (j / 32) ||| 2 ^ (j % 32) = lim Qs (j / 32) + 2 ^ (j % 32) ∧ lim Qs (j / 32) + 2 ^ (j % 32) < 4294967296 := by
  obtain ⟨h1, h2, h3, h4⟩ := h
  obtain ⟨e, hr⟩ := bd_parts hY h3
  rw [← hb] at e
  have hb2 : b < 2 := by omega
  have hlt : r * 2 + b - Y < Y := by omega
  have e2 : r * 2 + b + Y * (2 * (X / 2 ^ (j + 1) / Y)) = (r * 2 + b - Y) + Y * (2 * (X / 2 ^ (j + 1) / Y) + 1) := by
    rw [Nat.mul_add Y _ 1]
    omega
  have hdiv : lim Qs (j / 32) = 2 ^ (j % 32 + 1) * (lim Qs (j / 32) / 2 ^ (j % 32 + 1)) := by
    have hv := val_drop Qs h2 (j / 32)
    rw [h4, show 2 ^ (j + 1) = pw (j / 32) * 2 ^ (j % 32 + 1) by rw [two_succ, two_succ, pow_split j, Nat.mul_assoc], Nat.mul_assoc, Nat.mul_div_cancel_left _ (pw_pos _), val_cons_drop (by omega)] at hv
    have h32 := pow32 (s := j % 32 + 1) (by omega)
    have hd : 2 ^ (j % 32 + 1) ∣ lim Qs (j / 32) := by
      refine (Nat.dvd_add_iff_left ?_).2 ⟨_, hv⟩
      exact Nat.dvd_trans ⟨_, h32.symm⟩ (Nat.dvd_mul_right _ _)
    exact (Nat.mul_div_cancel' hd).symm
  have hs := h2.lim (j / 32)
  have hlt2 : lim Qs (j / 32) + 2 ^ (j % 32) < 4294967296 := by
    have h32 := pow32 (s := j % 32 + 1) (by omega)
    have hp := Nat.two_pow_pos (j % 32)
    generalize lim Qs (j / 32) / 2 ^ (j % 32 + 1) = t at hdiv
    have ht : t < 2 ^ (32 - (j % 32 + 1)) := by
      rcases Nat.lt_or_ge t (2 ^ (32 - (j % 32 + 1))) with h | h
      · exact h
      · have := Nat.mul_le_mul_left (2 ^ (j % 32 + 1)) h
        omega
    have := Nat.mul_le_mul_left (2 ^ (j % 32 + 1)) (show t + 1 ≤ 2 ^ (32 - (j % 32 + 1)) from ht)
    rw [Nat.mul_add, Nat.mul_one, ← hdiv, h32, two_succ] at this
    omega
  refine ⟨⟨by rw [List.length_set, h1], h2.set _ hlt2, ?_, ?_⟩, ?_, hlt2⟩
  · rw [e, e2, Nat.add_mul_mod_self_left, Nat.mod_eq_of_lt hlt]
  · have := val_set (xs := Qs) (k := j / 32) (v := lim Qs (j / 32) + 2 ^ (j % 32)) (by omega)
    rw [Nat.mul_add, ← pow_split, h4] at this
    rw [e, e2, Nat.add_mul_div_left _ _ hY, Nat.div_eq_of_lt hlt, Nat.zero_add, Nat.mul_add, Nat.mul_one, ← Nat.mul_assoc, ← two_succ]
    omega
  · have h5 := or_add (s := j % 32 + 1) (h := 2 ^ (j % 32)) (y := lim Qs (j / 32) / 2 ^ (j % 32 + 1)) (by rw [two_succ]; have := Nat.two_pow_pos (j % 32); omega)
    rw [← hdiv] at h5
    rw [Nat.or_comm, h5, Nat.add_comm]
theorem bd_end {Qs : List Nat} {X Y n r : Nat} (h : BdInv Qs X Y n 0 r) : val Qs = X / Y ∧ r = X % Y := by
  obtain ⟨h1, h2, h3, h4⟩ := h
  rw [Nat.pow_zero, Nat.div_one] at h3 h4
  exact ⟨by rw [h4, Nat.one_mul], h3⟩
end Go.Proofs.Ytllbncipadjjgaa
