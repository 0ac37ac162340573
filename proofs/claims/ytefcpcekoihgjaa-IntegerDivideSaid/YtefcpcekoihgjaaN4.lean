/-
  Plain facts on the division of one limb: the estimate, the multiple subtracted, the divisor added back.
-/
import Derived.Test.YtefcpcekoihgjaaN3
namespace Go.Proofs.Ytefcpcekoihgjaa
set_option linter.unusedVariables false
set_option linter.unusedSimpArgs false

/-- rs is t W and less than W more, ys is v W and less than W more. -/
theorem top3 {rs : List Nat} (hs : Sm rs) {p : Nat} (hl : rs.length = p + 3) :
    ∃ lo, lo < pw p ∧ val rs = (lim rs p + 4294967296 * lim rs (p + 1) + 18446744073709551616 * lim rs (p + 2)) * pw p + lo := by
  refine ⟨pv rs p, pv_lt hs p, ?_⟩
  have e1 : pw (p + 1) = 4294967296 * pw p := rfl
  have e2 : pw (p + 2) = 18446744073709551616 * pw p := by rw [pw, e1, ← Nat.mul_assoc]
  rw [← pv_len (k := p + 3) (by omega), pv_succ, pv_succ, pv_succ, e1, e2, Nat.add_mul, Nat.add_mul, Nat.mul_assoc, Nat.mul_assoc, Nat.mul_assoc, Nat.mul_assoc]
  rw [Nat.mul_comm (lim rs p) (pw p), Nat.mul_comm (lim rs (p + 1)) (pw p), Nat.mul_comm (lim rs (p + 2)) (pw p)]
  omega
theorem top2 {ys : List Nat} (hs : Sm ys) {p : Nat} (hl : ys.length = p + 2) :
    ∃ lo, lo < pw p ∧ val ys = (lim ys p + 4294967296 * lim ys (p + 1)) * pw p + lo := by
  refine ⟨pv ys p, pv_lt hs p, ?_⟩
  have e1 : pw (p + 1) = 4294967296 * pw p := rfl
  rw [← pv_len (k := p + 2) (by omega), pv_succ, pv_succ, e1, Nat.add_mul, Nat.mul_assoc, Nat.mul_assoc]
  rw [Nat.mul_comm (lim ys p) (pw p), Nat.mul_comm (lim ys (p + 1)) (pw p)]
  omega
section
variable {R D W t v rl dl : Nat}
theorem est_qv (hW : 0 < W) (hr : R = t * W + rl) (hrl : rl < W) (hd : D = v * W + dl) (hD : 0 < D) : R / D * v ≤ t := by
  have h1 : R / D * D ≤ R := Nat.div_mul_le_self R D
  have h2 : R / D * (v * W) ≤ R / D * D := Nat.mul_le_mul_left _ (by omega)
  rw [← Nat.mul_assoc] at h2
  have h3 : (R / D * v) * W < (t + 1) * W := by rw [Nat.add_mul, Nat.one_mul]; omega
  exact Nat.lt_succ_iff.1 (Nat.lt_of_mul_lt_mul_right h3)
theorem est_up (hW : 0 < W) (hr : R = t * W + rl) (hd : D = v * W + dl) (hdl : dl < W) (hD : 0 < D) {q : Nat} (hq : q ≤ v + 1) (h : q * v ≤ t) : q ≤ R / D + 1 := by
  rcases Nat.eq_zero_or_pos q with h0 | h0
  · rw [h0]; exact Nat.zero_le _
  · obtain ⟨p, rfl⟩ : ∃ p, q = p + 1 := ⟨q - 1, by omega⟩
    have h1 : p * D ≤ R := by
      have h2 : p * D ≤ p * ((v + 1) * W) := Nat.mul_le_mul_left _ (by rw [Nat.add_mul, Nat.one_mul]; omega)
      rw [← Nat.mul_assoc] at h2
      have h3 : p * (v + 1) ≤ t := by
        rw [Nat.mul_add, Nat.mul_one]
        rw [Nat.add_mul, Nat.one_mul] at h
        omega
      have h4 := Nat.mul_le_mul_right W h3
      omega
    have := (Nat.le_div_iff_mul_le hD).2 h1
    omega
end
/-- What the estimate rests on. -/
structure Est (Q f s r0 r1 r2 : Nat) : Prop where
  fB : f < 4294967296
  f2 : 2147483648 ≤ f
  sB : s < 4294967296
  a0 : r0 < 4294967296
  a1 : r1 < 4294967296
  a2 : r2 < 4294967296
  top : r2 ≤ f
  QB : Q < 4294967296
  Qv : Q * (s + 4294967296 * f) ≤ r0 + 4294967296 * r1 + 18446744073709551616 * r2
  fin : ∀ q, q < 4294967296 → q * (s + 4294967296 * f) ≤ r0 + 4294967296 * r1 + 18446744073709551616 * r2 → q ≤ Q + 1
theorem est_of {rs ys : List Nat} {p : Nat} (hr : Sm rs) (hy : Sm ys) (hrl : rs.length = p + 3) (hyl : ys.length = p + 2) (hlt : val rs < 4294967296 * val ys) (hn : 2147483648 ≤ lim ys (p + 1)) :
    Est (val rs / val ys) (lim ys (p + 1)) (lim ys p) (lim rs p) (lim rs (p + 1)) (lim rs (p + 2)) := by
  obtain ⟨rl, h1, h2⟩ := top3 hr hrl
  obtain ⟨dl, h3, h4⟩ := top2 hy hyl
  have hW := pw_pos p
  have b0 := hr.lim p
  have b1 := hr.lim (p + 1)
  have b2 := hr.lim (p + 2)
  have c0 := hy.lim p
  have c1 := hy.lim (p + 1)
  have hD : 0 < val ys := by omega
  refine ⟨c1, hn, c0, b0, b1, b2, ?_, Nat.div_lt_of_lt_mul (by rw [Nat.mul_comm]; exact hlt), est_qv hW h2 h1 h4 hD, fun q hq h => est_up hW h2 h4 h3 hD (by omega) h⟩
  have e : (lim rs p + 4294967296 * lim rs (p + 1) + 18446744073709551616 * lim rs (p + 2)) * pw p < (4294967296 * (lim ys p + 4294967296 * lim ys (p + 1) + 1)) * pw p := by
    rw [Nat.mul_assoc, Nat.add_mul (lim ys p + 4294967296 * lim ys (p + 1)), Nat.one_mul]
    omega
  have := Nat.lt_of_mul_lt_mul_right e
  omega
section
variable {Q f s r0 r1 r2 : Nat}
theorem est_start (h : Est Q f s r0 r1 r2) : Q ≤ (r1 + 4294967296 * r2) / f ∧ (r1 + 4294967296 * r2) / f * f + (r1 + 4294967296 * r2) % f = r1 + 4294967296 * r2 ∧ (r1 + 4294967296 * r2) / f ≤ 8589934592 := by
  have hf := h.f2
  refine ⟨?_, ?_, ?_⟩
  · rw [Nat.le_div_iff_mul_le (by omega)]
    have hq := h.Qv
    rw [Nat.mul_add, Nat.mul_left_comm] at hq
    have := h.a0
    omega
  · rw [Nat.mul_comm]; exact Nat.div_add_mod _ _
  · rw [Nat.div_le_iff_le_mul_add_pred (by omega)]
    have := h.a1
    have := h.a2
    have := Nat.mul_le_mul_right 8589934592 hf
    omega
/-- top = q f + r: the estimate q is too great. -/
theorem est_dec (h : Est Q f s r0 r1 r2) {q r : Nat} (hq : Q ≤ q) (he : q * f + r = r1 + 4294967296 * r2) (hc : 4294967296 ≤ q ∨ r0 + 4294967296 * r < q * s) :
    Q ≤ q - 1 ∧ (q - 1) * f + (r + f) = r1 + 4294967296 * r2 ∧ 0 < q := by
  have hlt : Q < q := by
    rcases hc with hc | hc
    · have := h.QB; omega
    · have hq2 := h.Qv
      rcases Nat.lt_or_ge Q q with h1 | h1
      · exact h1
      · obtain rfl : q = Q := by omega
        rw [Nat.mul_add, Nat.mul_left_comm] at hq2
        omega
  obtain ⟨p, rfl⟩ : ∃ p, q = p + 1 := ⟨q - 1, by omega⟩
  refine ⟨by omega, ?_, by omega⟩
  rw [Nat.add_sub_cancel]
  rw [Nat.add_mul, Nat.one_mul] at he
  omega
/-- It is not too great, or the rest exceeds a limb. -/
theorem est_fin (h : Est Q f s r0 r1 r2) {q r : Nat} (hq : Q ≤ q) (he : q * f + r = r1 + 4294967296 * r2) (hc : 4294967296 ≤ r ∨ (q < 4294967296 ∧ q * s ≤ r0 + 4294967296 * r)) :
    q < 4294967296 ∧ q ≤ Q + 1 := by
  have hqB : q < 4294967296 := by
    rcases hc with hc | hc
    · rcases Nat.lt_or_ge q 4294967296 with h1 | h1
      · exact h1
      · have h2 := Nat.mul_le_mul_right f h1
        have := h.top
        have := h.a1
        omega
    · exact hc.1
  refine ⟨hqB, h.fin q hqB ?_⟩
  rw [Nat.mul_add, Nat.mul_left_comm]
  have hs : q * s ≤ r0 + 4294967296 * r := by
    rcases hc with hc | hc
    · have h1 := Nat.mul_le_mul (show q ≤ 4294967295 by omega) (show s ≤ 4294967295 by have := h.sB; omega)
      omega
    · exact hc.2
  omega
end

/-! ### A multiple subtracted -/
/-- The block S has become T; outside the limbs o to o + k nothing has turned. -/
def Win (S T : List Nat) (o k : Nat) : Prop := T.length = S.length ∧ Sm T ∧ ∀ j, j < o ∨ o + k ≤ j → lim T j = lim S j
def SmInv (S T ys : List Nat) (o q k c : Nat) : Prop := Win S T o k ∧ pv (S.drop o) k + pw k * c = pv (T.drop o) k + q * pv ys k
theorem sm_start (S ys : List Nat) (o q : Nat) (hs : Sm S) : SmInv S S ys o q 0 0 := ⟨⟨rfl, hs, fun _ _ => rfl⟩, by simp [pv_zero]⟩
theorem sm_step {S T ys : List Nat} {o q k c t v c' : Nat} (hk : o + k < S.length) (ht : t = c + q * lim ys k) (hv : v < 4294967296)
    (hvc : v + t % 4294967296 + 4294967296 * (t / 4294967296) + 0 = lim T (o + k) + 4294967296 * c') (h : SmInv S T ys o q k c) :
    SmInv S (T.set (o + k) v) ys o q (k + 1) c' := by
  obtain ⟨⟨h1, h2, h3⟩, h4⟩ := h
  refine ⟨⟨by rw [List.length_set, h1], h2.set _ hv, fun j hj => ?_⟩, ?_⟩
  · rw [lim_set_ne (by omega)]; exact h3 j (by omega)
  · rw [pv_drop_set (by omega), pv_succ, pv_succ ys, lim_drop, pw, ← h3 (o + k) (by omega), Nat.mul_add]
    have hvt : v + t = lim T (o + k) + 4294967296 * c' := by omega
    have e : pw k * (v + t) = pw k * (lim T (o + k) + 4294967296 * c') := by rw [hvt]
    rw [Nat.mul_add, Nat.mul_add, ht, Nat.mul_add, Nat.mul_left_comm (pw k) 4294967296, ← Nat.mul_assoc 4294967296] at e
    rw [Nat.mul_left_comm q (pw k)]
    omega
theorem sm_word {s c q y t : Nat} (hs : s < 4294967296) (hc : c < 4294967296) (hq : q < 4294967296) (hy : y < 4294967296) (ht : t = c + q * y) :
    t ≤ 18446744069414584320 ∧ (s < t % 4294967296 → t / 4294967296 + 1 < 4294967296) ∧ t / 4294967296 < 4294967296 := by
  have h := Nat.mul_le_mul (show q ≤ 4294967295 by omega) (show y ≤ 4294967295 by omega)
  refine ⟨by omega, fun h => by omega, by omega⟩
/-- The last limb. -/
theorem sm_end {S T ys : List Nat} {o q m c v e : Nat} (hk : o + (m + 1) ≤ S.length) (hm : ys.length = m) (hv : v < 4294967296) (hvc : v + c = lim T (o + m) + 4294967296 * e) (h : SmInv S T ys o q m c) :
    Win S (T.set (o + m) v) o (m + 1) ∧ pv ((T.set (o + m) v).drop o) (m + 1) + q * val ys = pv (S.drop o) (m + 1) + pw (m + 1) * e := by
  obtain ⟨⟨h1, h2, h3⟩, h4⟩ := h
  refine ⟨⟨by rw [List.length_set, h1], h2.set _ hv, fun j hj => ?_⟩, ?_⟩
  · rw [lim_set_ne (by omega)]; exact h3 j (by omega)
  · rw [pv_drop_set (by omega), pv_succ, lim_drop, ← h3 (o + m) (by omega), pw]
    rw [pv_len (xs := ys) (by omega)] at h4
    have e1 : pw m * (v + c) = pw m * (lim T (o + m) + 4294967296 * e) := by rw [hvc]
    rw [Nat.mul_add, Nat.mul_add, Nat.mul_left_comm (pw m) 4294967296, ← Nat.mul_assoc 4294967296] at e1
    omega
theorem win_lt {S T : List Nat} {o k : Nat} (h : Win S T o k) (j : Nat) : pv (T.drop o) j < pw j := pv_lt (h.2.1.drop o) j

/-- The divisor added back. -/
theorem ab_end {S T ys : List Nat} {o m cc v x : Nat} (hk : o + (m + 1) ≤ S.length) (hm : ys.length = m) (hv : v < 4294967296) (hvx : v + 4294967296 * x = lim S (o + m) + cc) (h : AmInv S T ys o 1 m cc) :
    Win S (T.set (o + m) v) o (m + 1) ∧ pv ((T.set (o + m) v).drop o) (m + 1) + pw (m + 1) * x = pv (S.drop o) (m + 1) + val ys := by
  obtain ⟨h1, h2, h3, h4⟩ := h
  refine ⟨⟨by rw [List.length_set, h1], h2.set _ hv, fun j hj => ?_⟩, ?_⟩
  · rw [lim_set_ne (by omega)]; exact h3 j (by omega)
  · rw [pv_drop_set (by omega), pv_succ, lim_drop, pw]
    rw [pv_len (xs := ys) (by omega), Nat.mul_one] at h4
    have e1 : pw m * (v + 4294967296 * x) = pw m * (lim S (o + m) + cc) := by rw [hvx]
    rw [Nat.mul_add, Nat.mul_add, Nat.mul_left_comm (pw m) 4294967296, ← Nat.mul_assoc 4294967296] at e1
    omega
end Go.Proofs.Ytefcpcekoihgjaa
