/-
  Plain facts on the long division.
-/
import Derived.Test.YtefcpcekoihgjaaN4
namespace Go.Proofs.Ytefcpcekoihgjaa
set_option linter.unusedVariables false
set_option linter.unusedSimpArgs false

theorem val_cons_drop {T : List Nat} {i : Nat} (h : i < T.length) : val (T.drop i) = lim T i + 4294967296 * val (T.drop (i + 1)) := by
  rw [List.drop_eq_getElem_cons h, val, lim_get h]
theorem val_drop_split (T : List Nat) (i m : Nat) : val (T.drop i) = pv (T.drop i) m + pw m * val (T.drop (i + m)) := by
  rcases Nat.lt_or_ge (T.drop i).length m with h | h
  · have e0 : T.drop (i + m) = [] := List.drop_of_length_le (by rw [List.length_drop] at h; omega)
    rw [pv_len (by omega), e0]
    simp [val]
  · rw [val_split (T.drop i) m h, List.drop_drop]
/-- The state of a long division: T is what is left, Qs the quotient's limbs from j on. -/
structure Dl (T Qs : List Nat) (n m D A j : Nat) : Prop where
  lenT : T.length = n + 1
  smT : Sm T
  lenQ : Qs.length = n + 1 - m
  smQ : Sm Qs
  less : val (T.drop j) < D
  whole : A = val T + D * (pw j * val (Qs.drop j))
theorem dl_start {T ys : List Nat} {n m k A : Nat} (hT : T.length = n + 1) (hsT : Sm T) (hv : val T = A * 2 ^ k) (hA : A < pw n) (hm : 0 < m) (hmn : m ≤ n) (hy : pw (m - 1) ≤ val ys) :
    Dl T (List.replicate (n + 1 - m) 0) n m (val ys * 2 ^ k) (A * 2 ^ k) (n + 1 - m) := by
  refine ⟨hT, hsT, List.length_replicate, Sm.replicate _, ?_, ?_⟩
  · rw [val_drop T hsT, hv]
    apply Nat.div_lt_of_lt_mul
    rw [← Nat.mul_assoc]
    refine Nat.mul_lt_mul_of_pos_right (Nat.lt_of_lt_of_le hA ?_) (Nat.two_pow_pos k)
    have h1 := Nat.mul_le_mul_left (pw (n + 1 - m)) hy
    rw [← pw_add, show n + 1 - m + (m - 1) = n by omega] at h1
    exact h1
  · rw [List.drop_of_length_le (by rw [List.length_replicate]; exact Nat.le_refl _), hv]
    simp [val]
section
variable {T Qs : List Nat} {n m D A i : Nat}
theorem dl_window (h : Dl T Qs n m D A (i + 1)) (hi : i + m + 1 ≤ n + 1) (hDm : D < pw m) : pv (T.drop i) (m + 1) = val (T.drop i) ∧ val (T.drop i) < 4294967296 * D := by
  have hc := val_cons_drop (T := T) (i := i) (by have := h.lenT; omega)
  have hl := h.smT.lim i
  have h1 := h.less
  refine ⟨pv_of_lt ?_, by omega⟩
  rw [pw]
  omega
theorem dl_step {T' : List Nat} (hD : 0 < D) (h : Dl T Qs n m D A (i + 1)) (hi : i + m + 1 ≤ n + 1) (hDm : D < pw m) (hw : Win T T' i (m + 1)) (hv : pv (T'.drop i) (m + 1) = pv (T.drop i) (m + 1) % D) :
    Dl T' (Qs.set i (pv (T.drop i) (m + 1) / D)) n m D A i := by
  obtain ⟨hR, hlt⟩ := dl_window h hi hDm
  rw [hR] at hv ⊢
  have hQ : val (T.drop i) / D < 4294967296 := Nat.div_lt_of_lt_mul (by rw [Nat.mul_comm]; exact hlt)
  have hz : val (T.drop (i + (m + 1))) = 0 := by
    have h1 := val_drop_split T i (m + 1)
    rw [hR] at h1
    rcases Nat.eq_zero_or_pos (val (T.drop (i + (m + 1)))) with h0 | h0
    · exact h0
    · have := Nat.le_mul_of_pos_left (val (T.drop (i + (m + 1)))) (pw_pos (m + 1)); omega
  have hz' : val (T'.drop (i + (m + 1))) = 0 := by
    rw [← hz]
    exact val_eq_of fun j => by rw [lim_drop, lim_drop]; exact hw.2.2 _ (.inr (by omega))
  have hd : val (T'.drop i) = val (T.drop i) % D := by rw [val_drop_split T' i (m + 1), hz', hv, Nat.mul_zero, Nat.add_zero]
  have hlenT := h.lenT
  have hlenQ := h.lenQ
  refine ⟨hw.1.trans h.lenT, hw.2.1, by rw [List.length_set]; exact h.lenQ, h.smQ.set _ hQ, by rw [hd]; exact Nat.mod_lt _ hD, ?_⟩
  have e1 : val T = pv T i + pw i * val (T.drop i) := val_split T i (by omega)
  have e2 : val T' = pv T' i + pw i * val (T'.drop i) := val_split T' i (by rw [hw.1]; omega)
  have e3 : pv T' i = pv T i := pv_congr fun j hj => hw.2.2 j (.inl hj)
  have e4 : val ((Qs.set i (val (T.drop i) / D)).drop i) = val (T.drop i) / D + 4294967296 * val (Qs.drop (i + 1)) := by
    rw [val_cons_drop (by rw [List.length_set]; omega), lim_set_eq (by omega), List.drop_set_of_lt (by omega)]
  rw [e2, e3, hd, e4, h.whole, e1]
  have e5 := Nat.div_add_mod (val (T.drop i)) D
  have e6 : pw i * val (T.drop i) = pw i * (D * (val (T.drop i) / D)) + pw i * (val (T.drop i) % D) := by rw [← Nat.mul_add, e5]
  rw [pw, Nat.mul_add (pw i), Nat.mul_add D, e6, Nat.mul_left_comm D (pw i) (val (T.drop i) / D)]
  have e7 : D * (4294967296 * pw i * val (Qs.drop (i + 1))) = D * (pw i * (4294967296 * val (Qs.drop (i + 1)))) := by
    rw [Nat.mul_comm 4294967296 (pw i), Nat.mul_assoc (pw i)]
  omega
theorem dl_end {X Y k : Nat} (hY : 0 < Y) (h : Dl T Qs n m (Y * 2 ^ k) (X * 2 ^ k) 0) : val Qs = X / Y ∧ val T / 2 ^ k = X % Y := by
  have h1 := h.less
  have h2 := h.whole
  rw [List.drop_zero] at h1 h2
  rw [pw, Nat.one_mul] at h2
  have hp := Nat.two_pow_pos k
  constructor
  · have e : X * 2 ^ k / (Y * 2 ^ k) = val Qs := by
      rw [h2, Nat.add_comm, Nat.mul_add_div (by omega), Nat.div_eq_of_lt h1, Nat.add_zero]
    rw [← e, Nat.mul_div_mul_right _ _ hp]
  · have e : X * 2 ^ k % (Y * 2 ^ k) = val T := by
      rw [h2, Nat.add_mul_mod_self_left, Nat.mod_eq_of_lt h1]
    rw [← e, Nat.mul_mod_mul_right, Nat.mul_div_cancel _ hp]
end
/-- The number of leading zeros of a limb that is not 0. -/
theorem lz_of {x b : Nat} (h1 : 1 ≤ b) (h32 : b ≤ 32) (hlo : 2 ^ (b - 1) ≤ x) (hhi : x < 2 ^ b) : 2147483648 ≤ x * 2 ^ (32 - b) ∧ x * 2 ^ (32 - b) < 4294967296 := by
  have e1 : 2 ^ (b - 1) * 2 ^ (32 - b) = 2147483648 := by rw [← Nat.pow_add, show b - 1 + (32 - b) = 31 by omega]
  have e2 : 2 ^ b * 2 ^ (32 - b) = 4294967296 := by rw [← Nat.pow_add, show b + (32 - b) = 32 by omega]
  constructor
  · rw [← e1]; exact Nat.mul_le_mul_right _ hlo
  · rw [← e2]; exact Nat.mul_lt_mul_of_pos_right hhi (Nat.two_pow_pos _)
/-- The divisor, shifted: its length, and its leading limb. -/
theorem norm_len {ys : List Nat} {p k : Nat} (hs : Sm ys) (hl : ys.length = p + 2) (hlo : 2147483648 ≤ lim ys (p + 1) * 2 ^ k) (hhi : lim ys (p + 1) * 2 ^ k < 4294967296) :
    val ys * 2 ^ k < pw (p + 2) ∧ (dg (val ys * 2 ^ k)).length = p + 2 ∧ 2147483648 ≤ lim (dg (val ys * 2 ^ k)) (p + 1) := by
  have e : val ys = pv ys (p + 1) + pw (p + 1) * lim ys (p + 1) := by rw [← pv_len (k := p + 2) (by omega), pv_succ]
  have hp := pv_lt hs (p + 1)
  have hpk := Nat.two_pow_pos k
  have hW := pw_pos (p + 1)
  have e2 : val ys * 2 ^ k = pv ys (p + 1) * 2 ^ k + pw (p + 1) * (lim ys (p + 1) * 2 ^ k) := by rw [e, Nat.add_mul, Nat.mul_assoc]
  have h1 : pw (p + 1) * 2147483648 ≤ pw (p + 1) * (lim ys (p + 1) * 2 ^ k) := Nat.mul_le_mul_left _ hlo
  have hup : val ys * 2 ^ k < pw (p + 2) := by
    have h3 : val ys < pw (p + 1) * (lim ys (p + 1) + 1) := by rw [e, Nat.mul_add, Nat.mul_one]; omega
    have h4 := Nat.mul_lt_mul_of_pos_right h3 hpk
    refine Nat.lt_of_lt_of_le h4 ?_
    rw [Nat.mul_assoc, show pw (p + 2) = pw (p + 1) * 4294967296 from by rw [pw, Nat.mul_comm]]
    apply Nat.mul_le_mul_left
    have e32 : 2 ^ k ∣ 4294967296 := by
      have hk : k ≤ 32 := by
        rcases Nat.lt_or_ge 32 k with h | h
        · have h5 : 2 ^ 33 ≤ 2 ^ k := Nat.pow_le_pow_right (by omega) (by omega)
          have h6 : lim ys (p + 1) ≠ 0 := by intro h0; rw [h0] at hlo; omega
          have h7 := Nat.le_mul_of_pos_left (2 ^ k) (show 0 < lim ys (p + 1) by omega)
          have h8 : (2 : Nat) ^ 33 = 8589934592 := by decide
          omega
        · exact h
      exact ⟨2 ^ (32 - k), (pow32 hk).symm⟩
    obtain ⟨c, hc⟩ := e32
    rw [hc] at hhi ⊢
    rw [Nat.mul_comm (2 ^ k) c] at hhi ⊢
    exact Nat.mul_le_mul_right _ (Nat.lt_of_mul_lt_mul_right hhi)
  have hlen : (dg (val ys * 2 ^ k)).length = p + 2 := by
    have h5 := len_dg_le hup
    rcases Nat.lt_or_ge (dg (val ys * 2 ^ k)).length (p + 2) with h6 | h6
    · have h7 := lt_of_len (n := val ys * 2 ^ k) (k := p + 1) (by omega)
      omega
    · omega
  refine ⟨hup, hlen, ?_⟩
  have h8 := val_dg (val ys * 2 ^ k)
  rw [← pv_len (k := p + 2) (by omega), pv_succ] at h8
  have h9 := pv_lt (sm_dg (val ys * 2 ^ k)) (p + 1)
  rcases Nat.lt_or_ge (lim (dg (val ys * 2 ^ k)) (p + 1)) 2147483648 with h10 | h10
  · have h11 := Nat.mul_le_mul_left (pw (p + 1)) (show lim (dg (val ys * 2 ^ k)) (p + 1) ≤ 2147483647 by omega)
    omega
  · exact h10
end Go.Proofs.Ytefcpcekoihgjaa
