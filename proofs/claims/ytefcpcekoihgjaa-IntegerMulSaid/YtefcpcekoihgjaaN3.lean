/-
  Plain facts on shifted lists of limbs.
-/
import Derived.Test.YtefcpcekoihgjaaN2
namespace Go.Proofs.Ytefcpcekoihgjaa
set_option linter.unusedVariables false
set_option linter.unusedSimpArgs false

theorem pow32 {s : Nat} (hs : s ≤ 32) : 2 ^ s * 2 ^ (32 - s) = 4294967296 := by
  rw [← Nat.pow_add, show s + (32 - s) = 32 by omega]
theorem pw_pow (q : Nat) : pw q = 2 ^ (32 * q) := by
  induction q with
  | zero => rfl
  | succ q ih => rw [pw, ih, Nat.mul_add, Nat.pow_add, Nat.mul_comm]
theorem pow_split (k : Nat) : 2 ^ k = pw (k / 32) * 2 ^ (k % 32) := by
  rw [pw_pow, ← Nat.pow_add]
  congr 1
  omega
theorem or_add {s h y : Nat} (hh : h < 2 ^ s) : h ||| 2 ^ s * y = h + 2 ^ s * y := by
  have := Nat.two_pow_add_eq_or_of_lt (i := s) (b := h) hh y
  rw [Nat.or_comm]
  omega
/-- One limb shifted by s bits. -/
theorem sh_word {x s h : Nat} (hs : s < 32) (hx : x < 4294967296) (hh : h < 2 ^ s) :
    x * 2 ^ s < 9223372036854775808 ∧ h ||| (x * 2 ^ s) % 4294967296 = h + (x * 2 ^ s) % 4294967296 ∧ h + (x * 2 ^ s) % 4294967296 < 4294967296 ∧ (x * 2 ^ s) / 4294967296 < 2 ^ s := by
  have hp := pow32 (s := s) (by omega)
  have hpos : 0 < 2 ^ (32 - s) := Nat.two_pow_pos _
  have hps : 0 < 2 ^ s := Nat.two_pow_pos _
  have hm : (x * 2 ^ s) % 4294967296 = 2 ^ s * (x % 2 ^ (32 - s)) := by rw [← hp, Nat.mul_comm x, Nat.mul_mod_mul_left]
  have h31 : 2 ^ s ≤ 2147483648 := by
    have := Nat.pow_le_pow_right (n := 2) (by omega) (show s ≤ 31 by omega)
    simpa using this
  refine ⟨?_, ?_, ?_, ?_⟩
  · have := Nat.mul_le_mul (show x ≤ 4294967295 by omega) h31
    omega
  · rw [hm]; exact or_add hh
  · rw [hm]
    have h1 : x % 2 ^ (32 - s) + 1 ≤ 2 ^ (32 - s) := Nat.mod_lt _ hpos
    have h2 := Nat.mul_le_mul_left (2 ^ s) h1
    rw [hp, Nat.mul_add, Nat.mul_one] at h2
    omega
  · rw [← hp, Nat.mul_comm x, Nat.mul_div_mul_left _ _ hps]
    apply Nat.div_lt_of_lt_mul
    rw [Nat.mul_comm, hp]
    exact hx
/-- The state of a number that is being shifted left by 32 q + s bits: j limbs are done. -/
def ShInv (S xs : List Nat) (q s n j : Nat) : Prop :=
  S.length = q + n + 1 ∧ Sm S ∧ (∀ i, i < q → lim S i = 0) ∧ lim S (q + j) < 2 ^ s ∧ pv (S.drop q) (j + 1) = pv xs j * 2 ^ s
theorem sh_start (xs : List Nat) (q s n : Nat) : ShInv (List.replicate (q + n + 1) 0) xs q s n 0 :=
  ⟨List.length_replicate, Sm.replicate _, fun i _ => lim_replicate _ _, by rw [lim_replicate]; exact Nat.two_pow_pos _,
    by rw [pv_succ, pv_zero, lim_drop, lim_replicate, pv_zero]; simp⟩
theorem sh_step {S xs : List Nat} {q s n j : Nat} (hs : s < 32) (hj : j < n) (hx : lim xs j < 4294967296) (h : ShInv S xs q s n j) :
    ShInv ((S.set (q + j) (lim S (q + j) + (lim xs j * 2 ^ s) % 4294967296)).set (q + (j + 1)) ((lim xs j * 2 ^ s) / 4294967296)) xs q s n (j + 1) := by
  obtain ⟨h1, h2, h3, h4, h5⟩ := h
  obtain ⟨w1, w2, w3, w4⟩ := sh_word hs hx h4
  have hs31 : 2 ^ s ≤ 4294967296 := by rw [← pow32 (s := s) (by omega)]; exact Nat.le_mul_of_pos_right _ (Nat.two_pow_pos _)
  refine ⟨by rw [List.length_set, List.length_set, h1], (h2.set _ w3).set _ (by omega), fun i hi => ?_, ?_, ?_⟩
  · rw [lim_set_ne (by omega), lim_set_ne (by omega)]; exact h3 i hi
  · rw [lim_set_eq (by rw [List.length_set]; omega)]; exact w4
  · rw [pv_drop_set (by rw [List.length_set]; omega), pv_drop_set (by omega), pv_succ xs, Nat.add_mul, ← h5, pv_succ (S.drop q), lim_drop, pw]
    have e : pw j * (lim xs j * 2 ^ s) = pw j * ((lim xs j * 2 ^ s) % 4294967296) + pw j * (4294967296 * ((lim xs j * 2 ^ s) / 4294967296)) := by rw [← Nat.mul_add, Nat.mod_add_div]
    rw [← Nat.mul_assoc (pw j) 4294967296, Nat.mul_comm (pw j) 4294967296] at e
    rw [Nat.mul_add, Nat.mul_assoc (pw j) (lim xs j) (2 ^ s)]
    omega
theorem sh_end {S xs : List Nat} {k n : Nat} (hn : xs.length = n) (h : ShInv S xs (k / 32) (k % 32) n n) : val S = val xs * 2 ^ k := by
  obtain ⟨h1, h2, h3, h4, h5⟩ := h
  rw [← pv_full, h1, Nat.add_assoc, pv_split, h5, pv_congr (xs := S) (ys := []) (fun i hi => by rw [h3 i hi]; rfl), pv_nil, pv_len (by omega), pow_split k, Nat.zero_add]
  rw [Nat.mul_left_comm]

/-! ### To the right -/
theorem val_drop (xs : List Nat) (hs : Sm xs) (i : Nat) : val (xs.drop i) = val xs / pw i := by
  rcases Nat.lt_or_ge i xs.length with h | h
  · have h1 := val_split xs i (by omega)
    have h2 := pv_lt hs i
    rw [h1, Nat.add_comm, Nat.mul_add_div (pw_pos i), Nat.div_eq_of_lt h2, Nat.add_zero]
  · rw [List.drop_of_length_le h, Nat.div_eq_of_lt]
    · rfl
    · exact Nat.lt_of_lt_of_le (val_lt hs) (pw_mono h)
theorem val_two_more (ys : List Nat) : val ys = lim ys 0 + 4294967296 * lim ys 1 + 18446744073709551616 * val (ys.drop 2) := by
  match ys with
  | [] => rfl
  | [x] => simp [val, lim]
  | x :: y :: r => simp [val, lim]; omega
/-- One limb of a number shifted right by s bits. -/
theorem shr_word {ys : List Nat} {s : Nat} (hs : s < 32) (hsm : Sm ys) (i : Nat) :
    (val ys / 2 ^ s) / pw i % 4294967296 = (lim ys i + 4294967296 * lim ys (i + 1)) / 2 ^ s % 4294967296 := by
  rw [Nat.div_div_eq_div_mul, Nat.mul_comm, ← Nat.div_div_eq_div_mul, ← val_drop ys hsm i, val_two_more (ys.drop i), lim_drop, lim_drop, Nat.add_zero]
  have hp := pow32 (s := s) (by omega)
  have e : (18446744073709551616 : Nat) = 2 ^ s * (4294967296 * 2 ^ (32 - s)) := by
    rw [Nat.mul_left_comm, hp]
  rw [e, Nat.mul_assoc, Nat.add_mul_div_left _ _ (Nat.two_pow_pos s), Nat.mul_assoc, Nat.add_mul_mod_self_left]
/-- The state of a number that is being shifted right: i limbs are done. -/
def ShrInv (S ys : List Nat) (s n i : Nat) : Prop := S.length = n ∧ Sm S ∧ pv S i = val ys / 2 ^ s % pw i
theorem shr_start (ys : List Nat) (s n : Nat) : ShrInv (List.replicate n 0) ys s n 0 := ⟨List.length_replicate, Sm.replicate _, by rw [pv_zero, pw, Nat.mod_one]⟩
theorem shr_step {S ys : List Nat} {s n i v : Nat} (hs : s < 32) (hsm : Sm ys) (hi : i < n) (hv : v = (lim ys i + 4294967296 * lim ys (i + 1)) / 2 ^ s % 4294967296) (h : ShrInv S ys s n i) :
    ShrInv (S.set i v) ys s n (i + 1) := by
  obtain ⟨h1, h2, h3⟩ := h
  refine ⟨by rw [List.length_set, h1], h2.set _ (by omega), ?_⟩
  rw [pv_set (by omega), h3, hv, ← shr_word hs hsm i, pw, Nat.mul_comm 4294967296, Nat.mod_mul]
theorem shr_end {S ys : List Nat} {s n : Nat} (hsm : Sm ys) (hn : ys.length = n) (h : ShrInv S ys s n n) : val S = val ys / 2 ^ s := by
  obtain ⟨h1, h2, h3⟩ := h
  have hl := val_lt hsm
  rw [hn] at hl
  rw [← pv_full, h1, h3, Nat.mod_eq_of_lt]
  exact Nat.lt_of_le_of_lt (Nat.div_le_self _ _) hl
theorem shr_whole {xs : List Nat} (hs : Sm xs) (k : Nat) : val (xs.drop (k / 32)) / 2 ^ (k % 32) = val xs / 2 ^ k := by
  rw [val_drop xs hs, Nat.div_div_eq_div_mul, ← pow_split]
theorem shr_zero {xs : List Nat} (hs : Sm xs) {k : Nat} (h : xs.length ≤ k / 32) : val xs / 2 ^ k = 0 := by
  rw [← shr_whole hs, List.drop_of_length_le h]
  simp [val]
end Go.Proofs.Ytefcpcekoihgjaa
