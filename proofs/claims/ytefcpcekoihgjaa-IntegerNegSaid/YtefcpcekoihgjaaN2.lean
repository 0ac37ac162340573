/-
  Plain facts on lists of limbs: what a loop's round does to them.
-/
import Derived.Test.YtefcpcekoihgjaaNum
namespace Go.Proofs.Ytefcpcekoihgjaa
set_option linter.unusedVariables false
set_option linter.unusedSimpArgs false

/-! ### One limb written -/
theorem store_step {S : List Nat} {k : Nat} (t : Nat) (hk : k < S.length) : pv (S.set k (t % 4294967296)) (k + 1) + pw (k + 1) * (t / 4294967296) = pv S k + pw k * t := by
  rw [pv_set hk, pw]
  have h : pw k * t = pw k * (t % 4294967296) + pw k * (4294967296 * (t / 4294967296)) := by rw [← Nat.mul_add, Nat.mod_add_div]
  rw [h, ← Nat.mul_assoc, Nat.mul_comm 4294967296 (pw k)]
  omega
theorem add_step {S xs ys : List Nat} {k cc n : Nat} (hk : k < n) (hcc : cc ≤ 1) (hx : lim xs k < 4294967296) (hy : lim ys k < 4294967296)
    (h : S.length = n + 1 ∧ Sm S ∧ pv S k + pw k * cc = pv xs k + pv ys k) :
    (S.set k ((cc + (lim xs k + lim ys k)) % 4294967296)).length = n + 1 ∧ Sm (S.set k ((cc + (lim xs k + lim ys k)) % 4294967296)) ∧
      pv (S.set k ((cc + (lim xs k + lim ys k)) % 4294967296)) (k + 1) + pw (k + 1) * ((cc + (lim xs k + lim ys k)) / 4294967296) = pv xs (k + 1) + pv ys (k + 1) := by
  obtain ⟨h1, h2, h3⟩ := h
  refine ⟨by rw [List.length_set, h1], h2.set _ (by omega), ?_⟩
  rw [store_step _ (by omega), pv_succ xs, pv_succ ys, Nat.mul_add, Nat.mul_add]
  omega
theorem add_end {S xs ys : List Nat} {cc n : Nat} (hcc : cc ≤ 1) (hx : xs.length ≤ n) (hy : ys.length ≤ n) (h : S.length = n + 1 ∧ Sm S ∧ pv S n + pw n * cc = pv xs n + pv ys n) :
    (S.set n cc).length = n + 1 ∧ Sm (S.set n cc) ∧ val (S.set n cc) = val xs + val ys := by
  obtain ⟨h1, h2, h3⟩ := h
  have hl : (S.set n cc).length = n + 1 := by rw [List.length_set, h1]
  refine ⟨hl, h2.set _ (by omega), ?_⟩
  rw [← pv_full, hl, pv_set (by omega), h3, pv_len hx, pv_len hy]

theorem sub_step {S xs ys : List Nat} {k bw n v q : Nat} (hk : k < n) (hv : v < 4294967296) (hvq : v + lim ys k + bw = lim xs k + 4294967296 * q)
    (h : S.length = n ∧ Sm S ∧ pv S k + pv ys k = pv xs k + pw k * bw) :
    (S.set k v).length = n ∧ Sm (S.set k v) ∧ pv (S.set k v) (k + 1) + pv ys (k + 1) = pv xs (k + 1) + pw (k + 1) * q := by
  obtain ⟨h1, h2, h3⟩ := h
  refine ⟨by rw [List.length_set, h1], h2.set _ hv, ?_⟩
  rw [pv_set (by omega), pv_succ ys, pv_succ xs, pw]
  have e : pw k * (v + lim ys k + bw) = pw k * (lim xs k + 4294967296 * q) := by rw [hvq]
  rw [Nat.mul_add, Nat.mul_add, Nat.mul_add, ← Nat.mul_assoc, Nat.mul_comm (pw k) 4294967296] at e
  omega
theorem pv_of_lt {ys : List Nat} {n : Nat} (h : val ys < pw n) : pv ys n = val ys := by
  rcases Nat.lt_or_ge n ys.length with hl | hl
  · have hs := val_split ys n (by omega)
    have hp := pw_pos n
    have h0 : val (ys.drop n) = 0 := by
      rcases Nat.eq_zero_or_pos (val (ys.drop n)) with h0 | h0
      · exact h0
      · have := Nat.le_mul_of_pos_right (pw n) h0; omega
    rw [h0] at hs
    omega
  · exact pv_len hl
theorem sub_end {S xs ys : List Nat} {bw n : Nat} (hx : xs.length = n) (hsx : Sm xs) (hle : val ys ≤ val xs) (h : S.length = n ∧ Sm S ∧ pv S n + pv ys n = pv xs n + pw n * bw) :
    val S = val xs - val ys := by
  obtain ⟨h1, h2, h3⟩ := h
  have hxl := val_lt hsx
  have hsl := val_lt h2
  rw [hx] at hxl
  rw [h1] at hsl
  have a1 : pv ys n = val ys := pv_of_lt (by omega)
  have a2 : pv S n = val S := pv_len (by omega)
  have a3 : pv xs n = val xs := pv_len (by omega)
  rw [a1, a2, a3] at h3
  rcases Nat.eq_zero_or_pos bw with h0 | h0
  · subst h0; omega
  · have := Nat.le_mul_of_pos_right (pw n) h0; omega

/-! ### A multiple added -/
theorem pv_congr {xs ys : List Nat} {k : Nat} (h : ∀ j, j < k → lim xs j = lim ys j) : pv xs k = pv ys k := by
  induction k with
  | zero => rw [pv_zero, pv_zero]
  | succ k ih => rw [pv_succ, pv_succ, ih (fun j hj => h j (by omega)), h k (by omega)]
theorem pv_split (S : List Nat) (o m : Nat) : pv S (o + m) = pv S o + pw o * pv (S.drop o) m := by
  induction m with
  | zero => rw [Nat.add_zero, pv_zero, Nat.mul_zero, Nat.add_zero]
  | succ m ih => rw [← Nat.add_assoc, pv_succ, ih, pv_succ, lim_drop, pw_add, Nat.mul_add, Nat.mul_assoc, Nat.add_assoc]
theorem pv_drop_set {T : List Nat} {o k v : Nat} (h : o + k < T.length) : pv ((T.set (o + k) v).drop o) (k + 1) = pv (T.drop o) k + pw k * v := by
  rw [pv_succ, lim_drop, lim_set_eq h]
  congr 1
  exact pv_congr fun j hj => by rw [lim_drop, lim_drop, lim_set_ne (by omega)]
theorem mul_bound {x y : Nat} (hx : x < 4294967296) (hy : y < 4294967296) : x * y ≤ 18446744065119617025 :=
  Nat.le_trans (Nat.mul_le_mul (show x ≤ 4294967295 by omega) (show y ≤ 4294967295 by omega)) (Nat.le_refl _)
/-- The state of a block into which a multiple is added from place o on: k limbs are done. -/
def AmInv (S T ys : List Nat) (o x k cc : Nat) : Prop :=
  T.length = S.length ∧ Sm T ∧ (∀ j, j < o ∨ o + k ≤ j → lim T j = lim S j) ∧ pv (T.drop o) k + pw k * cc = pv (S.drop o) k + pv ys k * x
theorem am_step {S T ys : List Nat} {o x k cc : Nat} (hk : o + k < S.length) (h : AmInv S T ys o x k cc) :
    AmInv S (T.set (o + k) ((cc + (x * lim ys k + lim T (o + k))) % 4294967296)) ys o x (k + 1) ((cc + (x * lim ys k + lim T (o + k))) / 4294967296) := by
  obtain ⟨h1, h2, h3, h4⟩ := h
  refine ⟨by rw [List.length_set, h1], h2.set _ (by omega), fun j hj => ?_, ?_⟩
  · rw [lim_set_ne (by omega)]; exact h3 j (by omega)
  · rw [pv_drop_set (by omega), pv_succ, pv_succ, lim_drop, pw, h3 (o + k) (by omega), Nat.add_mul]
    generalize ht : cc + (x * lim ys k + lim S (o + k)) = t
    have e : pw k * t = pw k * (t % 4294967296) + pw k * (4294967296 * (t / 4294967296)) := by rw [← Nat.mul_add, Nat.mod_add_div]
    rw [← Nat.mul_assoc, Nat.mul_comm (pw k) 4294967296] at e
    have e2 : pw k * t = pw k * cc + (pw k * lim ys k * x + pw k * lim S (o + k)) := by
      rw [← ht, Nat.mul_add, Nat.mul_add, Nat.mul_comm x, Nat.mul_assoc]
    omega
theorem am_start (S ys : List Nat) (o x : Nat) (hs : Sm S) : AmInv S S ys o x 0 0 := ⟨rfl, hs, fun _ _ => rfl, by simp [pv_zero]⟩

/-- The state of a product: k limbs of X have been taken. -/
def MulInv (P X Y : List Nat) (n m k : Nat) : Prop := P.length = n + m ∧ Sm P ∧ pv P (k + m) = pv X k * val Y
theorem mul_start (X Y : List Nat) (n m : Nat) : MulInv (List.replicate (n + m) 0) X Y n m 0 := ⟨List.length_replicate, Sm.replicate _, by rw [pv_replicate, pv_zero, Nat.zero_mul]⟩
theorem mul_step {P T X Y : List Nat} {n m k cc : Nat} (hk : k < n) (hY : Y.length = m) (hcc : cc < 4294967296) (h : MulInv P X Y n m k) (ha : AmInv P T Y k (lim X k) m cc) :
    MulInv (T.set (k + m) cc) X Y n m (k + 1) := by
  obtain ⟨h1, h2, h3⟩ := h
  obtain ⟨a1, a2, a3, a4⟩ := ha
  refine ⟨by rw [List.length_set, a1, h1], a2.set _ hcc, ?_⟩
  rw [show k + 1 + m = k + m + 1 by omega, pv_set (by omega), pv_split, pv_succ, Nat.add_mul, ← h3, pv_split P, pw_add, Nat.mul_assoc, Nat.mul_assoc, pv_congr (xs := T) (ys := P) fun j hj => a3 j (by omega)]
  have e : pw k * (pv (T.drop k) m + pw m * cc) = pw k * (pv (P.drop k) m + pv Y m * lim X k) := by rw [a4]
  rw [Nat.mul_add, Nat.mul_add, pv_len (xs := Y) (by omega)] at e
  rw [Nat.mul_comm (lim X k) (val Y)]
  omega
theorem mul_end {P X Y : List Nat} {n m : Nat} (hX : X.length = n) (h : MulInv P X Y n m n) : val P = val X * val Y := by
  obtain ⟨h1, h2, h3⟩ := h
  rw [← pv_full, h1, h3, pv_len (by omega)]
end Go.Proofs.Ytefcpcekoihgjaa
