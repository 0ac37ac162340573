/-
  Plain facts on Lehmer's method: the cofactors of leading steps, and what they make of the whole numbers.
-/
import Derived.Test.YtllbncipadjjgaaN5
namespace Go.Proofs.Ytllbncipadjjgaa
set_option linter.unusedVariables false
set_option linter.unusedSimpArgs false

/-- The remainders x and y of x0 and y0, with their cofactors. -/
structure Cof (x0 y0 a b c d : Nat) (odd : Bool) (x y : Nat) : Prop where
  inv0 : x0 = d * x + b * y
  inv1 : y0 = c * x + a * y
  det : if odd then b * c = a * d + 1 else a * d = b * c + 1
  cd : c ≤ d
  bd : b ≤ d
  d1 : 1 ≤ d
  yx : y ≤ x
  ab : (a = 1 ∧ b = 0 ∧ c = 0 ∧ d = 1 ∧ odd = false) ∨ (1 ≤ c ∧ 1 ≤ b ∧ a ≤ b)
theorem cof_start {x y : Nat} (h : y ≤ x) : Cof x y 1 0 0 1 false x y := ⟨by omega, by omega, by simp, by omega, by omega, by omega, h, .inl ⟨rfl, rfl, rfl, rfl, rfl⟩⟩
theorem cof_step {x0 y0 a b c d x y : Nat} {odd : Bool} (h : Cof x0 y0 a b c d odd x y) (hy : 0 < y) : Cof x0 y0 c d (a + x / y * c) (b + x / y * d) (!odd) y (x % y) := by
  obtain ⟨h0, h1, h2, h3, h4, h5, h6, h7⟩ := h
  have hq : 1 ≤ x / y := (Nat.le_div_iff_mul_le hy).2 (by omega)
  have hx := Nat.div_add_mod x y
  generalize x / y = q at *
  generalize hr : x % y = r at *
  have hry : r < y := by rw [← hr]; exact Nat.mod_lt _ hy
  have hqc := Nat.le_mul_of_pos_left c hq
  have hqd := Nat.le_mul_of_pos_left d hq
  have hqcd := Nat.mul_le_mul_left q h3
  refine ⟨?_, ?_, ?_, ?_, by omega, by omega, by omega, ?_⟩
  · rw [h0, ← hx, Nat.mul_add, Nat.add_mul, Nat.mul_comm y q, ← Nat.mul_assoc, Nat.mul_comm d q]
    omega
  · rw [h1, ← hx, Nat.mul_add, Nat.add_mul, Nat.mul_comm y q, ← Nat.mul_assoc, Nat.mul_comm c q]
    omega
  · cases odd
    · simp only [Bool.not_false, if_true] at h2 ⊢
      rw [Nat.mul_add, Nat.mul_add, Nat.mul_left_comm d q c, Nat.mul_left_comm c q d, Nat.mul_comm d c, Nat.mul_comm d a, Nat.mul_comm c b]
      simp only [Bool.false_eq_true, if_false] at h2
      omega
    · simp only [Bool.not_true, Bool.false_eq_true, if_false, if_true] at h2 ⊢
      rw [Nat.mul_add, Nat.mul_add, Nat.mul_left_comm d q c, Nat.mul_left_comm c q d, Nat.mul_comm d c, Nat.mul_comm d a, Nat.mul_comm c b]
      omega
  · rcases h7 with ⟨rfl, rfl, rfl, rfl, _⟩ | h7
    · omega
    · omega
  · right
    rcases h7 with ⟨rfl, rfl, rfl, rfl, _⟩ | h7
    · omega
    · omega
/-- No cofactor of a state at which Collins's condition may be asked exceeds a word. -/
theorem cof_word {x0 y0 a b c d x y : Nat} {odd : Bool} (h : Cof x0 y0 a b c d odd x y) (hx0 : x0 ≤ 18446744073709551615) (hx : 1 ≤ x) : d ≤ 18446744073709551615 ∧ a ≤ d ∧ (d ≤ y → d ≤ 4294967295) := by
  have h0 := h.inv0
  have h1 := Nat.le_mul_of_pos_right d hx
  have had : a ≤ d := by
    rcases h.ab with ⟨rfl, rfl, rfl, rfl, _⟩ | h7
    · omega
    · have := h.bd; omega
  have hby := Nat.zero_le (b * y)
  refine ⟨by omega, had, fun hd => ?_⟩
  have h2 := Nat.mul_le_mul_left d (show d ≤ x by have := h.yx; omega)
  rcases Nat.lt_or_ge 4294967295 d with h3 | h3
  · have h4 := Nat.mul_le_mul (show 4294967296 ≤ d from h3) (show 4294967296 ≤ d from h3)
    omega
  · exact h3
/-- What the cofactors make of whole numbers whose leading bits are x0 and y0. -/
theorem cof_whole {x0 y0 a b c d x y A B S α β : Nat} {odd : Bool} (h : Cof x0 y0 a b c d odd x y) (hb : 1 ≤ b) (hA : A = x0 * S + α) (hB : B = y0 * S + β) (hα : α < S) (hβ : β < S) (h1 : d ≤ y) (h2 : b + d ≤ x - y) :
    ∃ A' B', (if odd then b * B = a * A + A' ∧ c * A = d * B + B' else a * A = b * B + A' ∧ d * B = c * A + B') ∧ B' < A' ∧ A' ≤ B ∧ Nat.gcd A' B' = Nat.gcd A B := by
  obtain ⟨h0, h1', hdet, hcd, hbd, hd1, hyx, hab⟩ := h
  have hc : 1 ≤ c ∧ a ≤ b := by
    rcases hab with ⟨_, hb0, _⟩ | h7
    · omega
    · exact ⟨h7.1, h7.2.2⟩
  have fin : ∀ A' B', (if odd then b * B = a * A + A' ∧ c * A = d * B + B' else a * A = b * B + A' ∧ d * B = c * A + B') → A' ≤ B ∧ Nat.gcd A' B' = Nat.gcd A B := by
    intro A' B' hAB
    have hinv : B = c * A' + a * B' ∧ A = d * A' + b * B' := by
      cases odd
      · simp only [Bool.false_eq_true, if_false] at hAB hdet
        have k1 : c * (a * A) = c * (b * B) + c * A' := by rw [← Nat.mul_add, ← hAB.1]
        have k2 : a * (d * B) = a * (c * A) + a * B' := by rw [← Nat.mul_add, ← hAB.2]
        have k3 : d * (a * A) = d * (b * B) + d * A' := by rw [← Nat.mul_add, ← hAB.1]
        have k4 : b * (d * B) = b * (c * A) + b * B' := by rw [← Nat.mul_add, ← hAB.2]
        have k5 : a * d * B = b * c * B + B := by rw [hdet, Nat.add_mul, Nat.one_mul]
        have k6 : a * d * A = b * c * A + A := by rw [hdet, Nat.add_mul, Nat.one_mul]
        rw [Nat.mul_assoc, Nat.mul_assoc] at k5 k6
        rw [Nat.mul_left_comm c a A, Nat.mul_left_comm c b B] at k1
        rw [Nat.mul_left_comm d a A, Nat.mul_left_comm d b B] at k3
        omega
      · simp only [if_true] at hAB hdet
        have k1 : c * (b * B) = c * (a * A) + c * A' := by rw [← Nat.mul_add, ← hAB.1]
        have k2 : a * (c * A) = a * (d * B) + a * B' := by rw [← Nat.mul_add, ← hAB.2]
        have k3 : d * (b * B) = d * (a * A) + d * A' := by rw [← Nat.mul_add, ← hAB.1]
        have k4 : b * (c * A) = b * (d * B) + b * B' := by rw [← Nat.mul_add, ← hAB.2]
        have k5 : b * c * B = a * d * B + B := by rw [hdet, Nat.add_mul, Nat.one_mul]
        have k6 : b * c * A = a * d * A + A := by rw [hdet, Nat.add_mul, Nat.one_mul]
        rw [Nat.mul_assoc, Nat.mul_assoc] at k5 k6
        rw [Nat.mul_left_comm c b B, Nat.mul_left_comm c a A] at k1
        rw [Nat.mul_left_comm d b B, Nat.mul_left_comm d a A] at k3
        omega
    refine ⟨?_, ?_⟩
    · have := Nat.le_mul_of_pos_left A' hc.1
      have := Nat.zero_le (a * B')
      omega
    · apply Nat.dvd_antisymm
      · apply Nat.dvd_gcd
        · rw [hinv.2]
          exact Nat.dvd_add (Nat.dvd_trans (Nat.gcd_dvd_left _ _) (Nat.dvd_mul_left _ _)) (Nat.dvd_trans (Nat.gcd_dvd_right _ _) (Nat.dvd_mul_left _ _))
        · rw [hinv.1]
          exact Nat.dvd_add (Nat.dvd_trans (Nat.gcd_dvd_left _ _) (Nat.dvd_mul_left _ _)) (Nat.dvd_trans (Nat.gcd_dvd_right _ _) (Nat.dvd_mul_left _ _))
      · have gA : ∀ k, Nat.gcd A B ∣ k * A := fun k => Nat.dvd_trans (Nat.gcd_dvd_left _ _) (Nat.dvd_mul_left _ _)
        have gB : ∀ k, Nat.gcd A B ∣ k * B := fun k => Nat.dvd_trans (Nat.gcd_dvd_right _ _) (Nat.dvd_mul_left _ _)
        cases odd
        · simp only [Bool.false_eq_true, if_false] at hAB
          exact Nat.dvd_gcd ((Nat.dvd_add_right (gB b)).1 (hAB.1 ▸ gA a)) ((Nat.dvd_add_right (gA c)).1 (hAB.2 ▸ gB d))
        · simp only [if_true] at hAB
          exact Nat.dvd_gcd ((Nat.dvd_add_right (gA a)).1 (hAB.1 ▸ gB b)) ((Nat.dvd_add_right (gB d)).1 (hAB.2 ▸ gA c))
  -- the signs and the order, from the leading bits
  have eA : ∀ k, k * A = k * x0 * S + k * α := fun k => by rw [hA, Nat.mul_add, Nat.mul_assoc]
  have eB : ∀ k, k * B = k * y0 * S + k * β := fun k => by rw [hB, Nat.mul_add, Nat.mul_assoc]
  cases odd
  · simp only [Bool.false_eq_true, if_false] at hdet fin ⊢
    have p1 : a * x0 = b * y0 + x := by
      rw [h0, h1', Nat.mul_add, Nat.mul_add, ← Nat.mul_assoc, hdet, Nat.add_mul, Nat.one_mul, ← Nat.mul_assoc b c x, Nat.mul_left_comm b a y]
      omega
    have p2 : d * y0 = c * x0 + y := by
      rw [h0, h1', Nat.mul_add, Nat.mul_add, ← Nat.mul_assoc d a y, Nat.mul_comm d a, hdet, Nat.add_mul, Nat.one_mul, Nat.mul_left_comm d c x, ← Nat.mul_assoc c b y, Nat.mul_comm c b]
      omega
    have q1 : b * β ≤ x * S := Nat.le_trans (Nat.mul_le_mul_left b (Nat.le_of_lt hβ)) (Nat.mul_le_mul_right S (by omega))
    have q2 : c * α ≤ y * S := Nat.le_trans (Nat.mul_le_mul_left c (Nat.le_of_lt hα)) (Nat.mul_le_mul_right S (by omega))
    have q3 : (b + d) * β < (b + d) * S := Nat.mul_lt_mul_of_pos_left hβ (by omega)
    have q4 : (b + d) * S ≤ (x - y) * S := Nat.mul_le_mul_right S h2
    have q5 : (x - y) * S + y * S = x * S := by rw [← Nat.add_mul]; congr 1; omega
    have e1 := eA a
    have e2 := eB b
    have e3 := eB d
    have e4 := eA c
    rw [p1, Nat.add_mul] at e1
    rw [p2, Nat.add_mul] at e3
    rw [Nat.add_mul] at q3 q4
    rw [Nat.add_mul] at q3
    refine ⟨a * A - b * B, d * B - c * A, ⟨by omega, by omega⟩, by omega, ?_⟩
    exact fin _ _ ⟨by omega, by omega⟩
  · simp only [if_true] at hdet fin ⊢
    have p1 : b * y0 = a * x0 + x := by
      rw [h0, h1', Nat.mul_add, Nat.mul_add, ← Nat.mul_assoc, hdet, Nat.add_mul, Nat.one_mul, ← Nat.mul_assoc a d x, Nat.mul_left_comm b a y]
      omega
    have p2 : c * x0 = d * y0 + y := by
      rw [h0, h1', Nat.mul_add, Nat.mul_add, ← Nat.mul_assoc c b y, Nat.mul_comm c b, hdet, Nat.add_mul, Nat.one_mul, Nat.mul_left_comm c d x, ← Nat.mul_assoc d a y, Nat.mul_comm d a]
      omega
    have q1 : a * α ≤ x * S := Nat.le_trans (Nat.mul_le_mul_left a (Nat.le_of_lt hα)) (Nat.mul_le_mul_right S (by omega))
    have q2 : d * β ≤ y * S := Nat.le_trans (Nat.mul_le_mul_left d (Nat.le_of_lt hβ)) (Nat.mul_le_mul_right S (by omega))
    have q3 : (a + c) * α < (a + c) * S := Nat.mul_lt_mul_of_pos_left hα (by omega)
    have q4 : (a + c) * S ≤ (x - y) * S := Nat.mul_le_mul_right S (by omega)
    have q5 : (x - y) * S + y * S = x * S := by rw [← Nat.add_mul]; congr 1; omega
    have e1 := eB b
    have e2 := eA a
    have e3 := eA c
    have e4 := eB d
    rw [p1, Nat.add_mul] at e1
    rw [p2, Nat.add_mul] at e3
    rw [Nat.add_mul] at q3 q4
    rw [Nat.add_mul] at q3
    refine ⟨b * B - a * A, c * A - d * B, ⟨by omega, by omega⟩, by omega, ?_⟩
    exact fin _ _ ⟨by omega, by omega⟩
/-! ### The difference of two multiples -/
def DfInv (S P Q : List Nat) (x y n i plus minus : Nat) : Prop := S.length = n ∧ Sm S ∧ pv S i + pv Q i * y + pw i * plus = pv P i * x + pw i * minus
theorem df_start (P Q : List Nat) (x y n : Nat) : DfInv (List.replicate n 0) P Q x y n 0 0 0 := ⟨List.length_replicate, Sm.replicate _, by rw [pv_replicate, pv_zero, pv_zero]; simp⟩
theorem df_step {S P Q : List Nat} {x y n i plus minus t1 t2 v e : Nat} (hi : i < n) (h1 : t1 = plus + lim P i * x) (h2 : t2 = minus + lim Q i * y) (hv : v < 4294967296) (hve : v + t2 % 4294967296 = t1 % 4294967296 + 4294967296 * e) (h : DfInv S P Q x y n i plus minus) :
    DfInv (S.set i v) P Q x y n (i + 1) (t1 / 4294967296) (t2 / 4294967296 + e) := by
  obtain ⟨a1, a2, a3⟩ := h
  refine ⟨by rw [List.length_set, a1], a2.set _ hv, ?_⟩
  rw [pv_set (by omega), pv_succ, pv_succ, pw, Nat.add_mul, Nat.add_mul]
  have k0 : v + t2 + 4294967296 * (t1 / 4294967296) = t1 + 4294967296 * (t2 / 4294967296 + e) := by omega
  have k : pw i * (v + t2 + 4294967296 * (t1 / 4294967296)) = pw i * (t1 + 4294967296 * (t2 / 4294967296 + e)) := by rw [k0]
  rw [Nat.mul_add, Nat.mul_add, Nat.mul_add, h1, h2, Nat.mul_add, Nat.mul_add, ← h1, ← h2] at k
  rw [← Nat.mul_assoc (pw i) 4294967296, ← Nat.mul_assoc (pw i) 4294967296, Nat.mul_comm (pw i) 4294967296] at k
  rw [Nat.mul_assoc (pw i) (lim Q i) y, Nat.mul_assoc (pw i) (lim P i) x]
  omega
theorem df_end {S P Q : List Nat} {x y n plus minus R : Nat} (hP : n ≤ P.length) (hQ : n ≤ Q.length) (hR : R < pw n) (hv : val P * x = val Q * y + R) (h : DfInv S P Q x y n n plus minus) : val S = R := by
  obtain ⟨a1, a2, a3⟩ := h
  rw [pv_len (xs := S) (by omega)] at a3
  have hS := val_lt a2
  rw [a1] at hS
  rw [val_split P n hP, val_split Q n hQ, Nat.add_mul, Nat.add_mul, Nat.mul_assoc, Nat.mul_assoc] at hv
  have k : val S + pw n * (plus + val (P.drop n) * x) = R + pw n * (minus + val (Q.drop n) * y) := by
    rw [Nat.mul_add, Nat.mul_add]
    omega
  have k2 : (val S + pw n * (plus + val (P.drop n) * x)) % pw n = (R + pw n * (minus + val (Q.drop n) * y)) % pw n := by rw [k]
  rwa [Nat.add_mul_mod_self_left, Nat.add_mul_mod_self_left, Nat.mod_eq_of_lt hS, Nat.mod_eq_of_lt hR] at k2
end Go.Proofs.Ytllbncipadjjgaa
