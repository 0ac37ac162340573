/-
  Plain facts on natural numbers that are written as lists of limbs of 32 bits, the least one first. No program is named here.
-/
namespace Go.Proofs.Ytefcpcekoihgjaa

def val : List Nat → Nat
  | [] => 0
  | x :: xs => x + 4294967296 * val xs
def Sm (xs : List Nat) : Prop := ∀ x ∈ xs, x < 4294967296
def lim (xs : List Nat) (k : Nat) : Nat := xs.getD k 0
def pw : Nat → Nat
  | 0 => 1
  | k + 1 => 4294967296 * pw k
/-- The value of the first k limbs. -/
def pv (xs : List Nat) (k : Nat) : Nat := val (xs.take k)
/-- The length without the limbs 0 at the end. -/
def tlen : List Nat → Nat
  | [] => 0
  | x :: xs => if tlen xs = 0 then (if x = 0 then 0 else 1) else tlen xs + 1
def dgF : Nat → Nat → List Nat
  | 0, _ => []
  | f + 1, n => if n = 0 then [] else n % 4294967296 :: dgF f (n / 4294967296)
/-- The limbs of a number. -/
def dg (n : Nat) : List Nat := dgF n n

theorem dgF_of {f g n : Nat} (hf : n ≤ f) (hg : n ≤ g) : dgF f n = dgF g n := by
  induction f generalizing g n with
  | zero =>
    have : n = 0 := by omega
    subst this
    cases g <;> simp [dgF]
  | succ f ih =>
    cases g with
    | zero =>
      have : n = 0 := by omega
      subst this
      simp [dgF]
    | succ g =>
      simp only [dgF]
      by_cases h : n = 0
      · simp [h]
      · rw [if_neg h, if_neg h, ih (g := g) (by omega) (by omega)]
theorem dg_zero : dg 0 = [] := rfl
theorem dg_pos {n : Nat} (h : n ≠ 0) : dg n = n % 4294967296 :: dg (n / 4294967296) := by
  unfold dg
  cases n with
  | zero => exact absurd rfl h
  | succ n =>
    rw [dgF, if_neg h]
    exact congrArg _ (dgF_of (by omega) (Nat.le_refl _))
theorem dg_cons {x m : Nat} (hx : x < 4294967296) (h : x ≠ 0 ∨ m ≠ 0) : dg (x + 4294967296 * m) = x :: dg m := by
  rw [dg_pos (by omega)]
  have h1 : (x + 4294967296 * m) % 4294967296 = x := by omega
  have h2 : (x + 4294967296 * m) / 4294967296 = m := by omega
  rw [h1, h2]
theorem dg_small {x : Nat} (hx : x < 4294967296) (h : x ≠ 0) : dg x = [x] := by
  have := dg_cons (m := 0) hx (.inl h)
  simpa [dg_zero] using this
theorem val_dg (n : Nat) : val (dg n) = n := by
  induction n using Nat.strongRecOn with
  | _ n ih =>
    by_cases h : n = 0
    · subst h; rfl
    · rw [dg_pos h, val, ih _ (by omega)]; omega
theorem sm_dg (n : Nat) : Sm (dg n) := by
  induction n using Nat.strongRecOn with
  | _ n ih =>
    by_cases h : n = 0
    · subst h; intro x hx; cases hx
    · rw [dg_pos h]
      intro x hx
      rcases List.mem_cons.1 hx with rfl | hx
      · omega
      · exact ih _ (by omega) x hx
theorem Sm.tail {x : Nat} {xs : List Nat} (h : Sm (x :: xs)) : Sm xs := fun y hy => h y (List.mem_cons_of_mem _ hy)
theorem Sm.head {x : Nat} {xs : List Nat} (h : Sm (x :: xs)) : x < 4294967296 := h x List.mem_cons_self
theorem Sm.cons {x : Nat} {xs : List Nat} (hx : x < 4294967296) (h : Sm xs) : Sm (x :: xs) := fun y hy => by
  rcases List.mem_cons.1 hy with rfl | hy
  · exact hx
  · exact h y hy
theorem Sm.nil : Sm [] := fun _ h => by cases h
theorem Sm.take {xs : List Nat} (h : Sm xs) (k : Nat) : Sm (xs.take k) := fun y hy => h y (List.mem_of_mem_take hy)
theorem Sm.drop {xs : List Nat} (h : Sm xs) (k : Nat) : Sm (xs.drop k) := fun y hy => h y (List.mem_of_mem_drop hy)
theorem Sm.set {xs : List Nat} (h : Sm xs) (k : Nat) {v : Nat} (hv : v < 4294967296) : Sm (xs.set k v) := fun y hy => by
  rcases List.mem_or_eq_of_mem_set hy with h1 | rfl
  · exact h y h1
  · exact hv
theorem Sm.lim {xs : List Nat} (h : Sm xs) (k : Nat) : lim xs k < 4294967296 := by
  unfold Ytefcpcekoihgjaa.lim
  rw [List.getD_eq_getElem?_getD]
  by_cases hk : k < xs.length
  · rw [List.getElem?_eq_getElem hk]; exact h _ (List.getElem_mem hk)
  · rw [List.getElem?_eq_none (by omega)]; simp
theorem Sm.replicate (n : Nat) : Sm (List.replicate n 0) := fun y hy => by rw [(List.mem_replicate.1 hy).2]; omega

theorem pw_pos (k : Nat) : 0 < pw k := by induction k with | zero => decide | succ k ih => rw [pw]; omega
theorem pw_add (j k : Nat) : pw (j + k) = pw j * pw k := by
  induction k with
  | zero => simp [pw]
  | succ k ih => rw [← Nat.add_assoc, pw, ih, pw, Nat.mul_left_comm]
theorem pw_mono {j k : Nat} (h : j ≤ k) : pw j ≤ pw k := by
  obtain ⟨d, rfl⟩ := Nat.le.dest h
  rw [pw_add]
  exact Nat.le_mul_of_pos_right _ (pw_pos d)

theorem lim_cons_zero (x : Nat) (xs : List Nat) : lim (x :: xs) 0 = x := rfl
theorem lim_cons_succ (x : Nat) (xs : List Nat) (k : Nat) : lim (x :: xs) (k + 1) = lim xs k := by simp [lim]
theorem lim_of_ge {xs : List Nat} {k : Nat} (h : xs.length ≤ k) : lim xs k = 0 := by simp [lim, List.getElem?_eq_none h]
theorem lim_get {xs : List Nat} {k : Nat} (h : k < xs.length) : lim xs k = xs[k] := by simp [lim, List.getElem?_eq_getElem h]
theorem lim_take {xs : List Nat} {j k : Nat} (h : k < j) : lim (xs.take j) k = lim xs k := by simp [lim, h]
theorem lim_drop {xs : List Nat} {j k : Nat} : lim (xs.drop j) k = lim xs (j + k) := by simp [lim, List.getElem?_drop]
theorem lim_set_eq {xs : List Nat} {k v : Nat} (h : k < xs.length) : lim (xs.set k v) k = v := by simp [lim, h]
theorem lim_set_ne {xs : List Nat} {j k v : Nat} (h : j ≠ k) : lim (xs.set j v) k = lim xs k := by simp [lim, List.getElem?_set_ne h]
theorem lim_replicate (n k : Nat) : lim (List.replicate n 0) k = 0 := by
  simp only [lim, List.getD_eq_getElem?_getD, List.getElem?_replicate]; split <;> rfl

theorem pv_zero (xs : List Nat) : pv xs 0 = 0 := by simp [pv, val]
theorem pv_cons (x : Nat) (xs : List Nat) (k : Nat) : pv (x :: xs) (k + 1) = x + 4294967296 * pv xs k := by simp [pv, val]
theorem pv_nil (k : Nat) : pv [] k = 0 := by simp [pv, val]
theorem pv_succ (xs : List Nat) (k : Nat) : pv xs (k + 1) = pv xs k + pw k * lim xs k := by
  induction xs generalizing k with
  | nil => simp [pv_nil, lim]
  | cons x xs ih =>
    cases k with
    | zero => rw [pv_cons, pv_zero, pv_zero, lim_cons_zero]; simp [pw]
    | succ k => rw [pv_cons, pv_cons, ih, lim_cons_succ, pw, Nat.mul_add, Nat.mul_assoc]; omega
theorem pv_len {xs : List Nat} {k : Nat} (h : xs.length ≤ k) : pv xs k = val xs := by rw [pv, List.take_of_length_le h]
theorem pv_full (xs : List Nat) : pv xs xs.length = val xs := pv_len (Nat.le_refl _)
theorem pv_lt {xs : List Nat} (h : Sm xs) (k : Nat) : pv xs k < pw k := by
  induction k with
  | zero => rw [pv_zero]; decide
  | succ k ih =>
    rw [pv_succ, pw]
    have h1 := h.lim k
    have h2 : pw k * lim xs k ≤ pw k * 4294967295 := Nat.mul_le_mul_left _ (by omega)
    omega
theorem val_lt {xs : List Nat} (h : Sm xs) : val xs < pw xs.length := by rw [← pv_full]; exact pv_lt h _
theorem pv_set_le {xs : List Nat} {j k v : Nat} (h : k ≤ j) : pv (xs.set j v) k = pv xs k := by
  unfold pv; rw [List.take_set_of_le h]
theorem pv_set {xs : List Nat} {k v : Nat} (h : k < xs.length) : pv (xs.set k v) (k + 1) = pv xs k + pw k * v := by
  rw [pv_succ, pv_set_le (Nat.le_refl _), lim_set_eq h]
theorem val_append (xs ys : List Nat) : val (xs ++ ys) = val xs + pw xs.length * val ys := by
  induction xs with
  | nil => simp [val, pw]
  | cons x xs ih => rw [List.cons_append, val, ih, val, List.length_cons, pw, Nat.mul_add, Nat.mul_assoc]; omega
theorem val_split (xs : List Nat) (k : Nat) (h : k ≤ xs.length) : val xs = pv xs k + pw k * val (xs.drop k) := by
  have := val_append (xs.take k) (xs.drop k)
  rw [List.take_append_drop, List.length_take, Nat.min_eq_left h] at this
  exact this
theorem val_replicate (n : Nat) : val (List.replicate n 0) = 0 := by
  induction n with
  | zero => rfl
  | succ n ih => rw [List.replicate_succ, val, ih]
theorem pv_replicate (n k : Nat) : pv (List.replicate n 0) k = 0 := by
  unfold pv; rw [List.take_replicate]; exact val_replicate _

theorem tlen_le (xs : List Nat) : tlen xs ≤ xs.length := by
  induction xs with
  | nil => simp [tlen]
  | cons x xs ih => simp only [tlen, List.length_cons]; split <;> (try split) <;> omega
theorem tlen_zero {xs : List Nat} (h : tlen xs = 0) : ∀ k, lim xs k = 0 := by
  induction xs with
  | nil => intro k; simp [lim]
  | cons x xs ih =>
    simp only [tlen] at h
    split at h
    · rename_i h0
      split at h
      · rename_i hx
        intro k
        cases k with
        | zero => rw [lim_cons_zero]; exact hx
        | succ k => rw [lim_cons_succ]; exact ih h0 k
      · omega
    · omega
theorem tlen_hi (xs : List Nat) : ∀ k, tlen xs ≤ k → lim xs k = 0 := by
  induction xs with
  | nil => intro k _; simp [lim]
  | cons x xs ih =>
    intro k hk
    simp only [tlen] at hk
    split at hk
    · rename_i h0
      cases k with
      | zero =>
        split at hk
        · rename_i hx; rw [lim_cons_zero]; exact hx
        · omega
      | succ k => rw [lim_cons_succ]; exact ih k (by omega)
    · cases k with
      | zero => omega
      | succ k => rw [lim_cons_succ]; exact ih k (by omega)
theorem tlen_top {xs : List Nat} (h : tlen xs ≠ 0) : lim xs (tlen xs - 1) ≠ 0 := by
  induction xs with
  | nil => simp [tlen] at h
  | cons x xs ih =>
    simp only [tlen] at h ⊢
    split at h
    · rename_i h0
      rw [if_pos h0]
      split at h
      · exact absurd rfl h
      · rename_i hx; rw [if_neg hx]; simpa [lim_cons_zero] using hx
    · rename_i h0
      rw [if_neg h0]
      have := ih h0
      have e : tlen xs + 1 - 1 = (tlen xs - 1) + 1 := by omega
      rw [e, lim_cons_succ]; exact this
theorem tlen_of {xs : List Nat} {k : Nat} (h1 : ∀ j, k ≤ j → lim xs j = 0) (h2 : k = 0 ∨ lim xs (k - 1) ≠ 0) : tlen xs = k := by
  rcases Nat.lt_trichotomy (tlen xs) k with h | h | h
  · rcases h2 with h2 | h2
    · omega
    · exact absurd (tlen_hi xs (k - 1) (by omega)) h2
  · exact h
  · exact absurd (h1 (tlen xs - 1) (by omega)) (tlen_top (by omega))
theorem val_zero_of {xs : List Nat} (h : ∀ k, lim xs k = 0) : val xs = 0 := by
  induction xs with
  | nil => rfl
  | cons x xs ih =>
    have h0 := h 0
    rw [lim_cons_zero] at h0
    rw [val, h0, ih (fun k => by have := h (k + 1); rwa [lim_cons_succ] at this)]
theorem tlen_zero_iff {xs : List Nat} : tlen xs = 0 ↔ val xs = 0 := by
  constructor
  · intro h; exact val_zero_of (tlen_zero h)
  · intro h
    induction xs with
    | nil => rfl
    | cons x xs ih =>
      rw [val] at h
      have hx : x = 0 := by omega
      have hv : val xs = 0 := by omega
      simp [tlen, hx, ih hv]
theorem dg_val {xs : List Nat} (h : Sm xs) : dg (val xs) = xs.take (tlen xs) := by
  induction xs with
  | nil => rfl
  | cons x xs ih =>
    have ih' := ih h.tail
    by_cases h0 : tlen xs = 0
    · have hv := tlen_zero_iff.1 h0
      by_cases hx : x = 0
      · simp [tlen, h0, hx, val, hv, dg_zero]
      · have : tlen (x :: xs) = 1 := by simp [tlen, h0, hx]
        rw [this, val, hv]
        simp [dg_small h.head hx]
    · have hv : val xs ≠ 0 := fun e => h0 (tlen_zero_iff.2 e)
      have : tlen (x :: xs) = tlen xs + 1 := by simp [tlen, h0]
      rw [this, val, dg_cons h.head (.inr hv), ih', List.take_succ_cons]
theorem len_dg_val {xs : List Nat} (h : Sm xs) : (dg (val xs)).length = tlen xs := by
  rw [dg_val h, List.length_take, Nat.min_eq_left (tlen_le xs)]
theorem tlen_dg (n : Nat) : tlen (dg n) = (dg n).length := by
  have := len_dg_val (sm_dg n)
  rw [val_dg] at this
  exact this.symm
theorem len_dg_le {n k : Nat} (h : n < pw k) : (dg n).length ≤ k := by
  induction k generalizing n with
  | zero => simp [pw] at h; subst h; simp [dg_zero]
  | succ k ih =>
    by_cases h0 : n = 0
    · subst h0; simp [dg_zero]
    · rw [dg_pos h0, List.length_cons]
      rw [pw] at h
      have := ih (n := n / 4294967296) (Nat.div_lt_of_lt_mul h)
      omega
theorem dg_inj {m n : Nat} (h : dg m = dg n) : m = n := by rw [← val_dg m, h, val_dg]
theorem dg_nil_iff {n : Nat} : dg n = [] ↔ n = 0 := ⟨fun h => dg_inj (h.trans dg_zero.symm), fun h => by rw [h, dg_zero]⟩
theorem lt_of_len {n k : Nat} (h : (dg n).length ≤ k) : n < pw k := by
  have := val_lt (sm_dg n)
  rw [val_dg] at this
  exact Nat.lt_of_lt_of_le this (pw_mono h)

/-! ### Comparing -/
theorem pv_lt_of {xs ys : List Nat} (hx : Sm xs) (k : Nat) (heq : ∀ j, k < j → lim xs j = lim ys j) (h : lim xs k < lim ys k) (d : Nat) : pv xs (k + 1 + d) < pv ys (k + 1 + d) := by
  induction d with
  | zero =>
    rw [Nat.add_zero, pv_succ, pv_succ]
    have h1 := pv_lt hx k
    have h2 : pw k * (lim xs k + 1) ≤ pw k * lim ys k := Nat.mul_le_mul_left _ h
    rw [Nat.mul_add, Nat.mul_one] at h2
    omega
  | succ d ih =>
    rw [← Nat.add_assoc, pv_succ, pv_succ, heq (k + 1 + d) (by omega)]
    omega
theorem val_lt_of {xs ys : List Nat} (hx : Sm xs) (k : Nat) (heq : ∀ j, k < j → lim xs j = lim ys j) (h : lim xs k < lim ys k) : val xs < val ys := by
  have := pv_lt_of hx k heq h (xs.length + ys.length)
  rwa [pv_len (by omega), pv_len (by omega)] at this
theorem pv_eq_of {xs ys : List Nat} (heq : ∀ j, lim xs j = lim ys j) (d : Nat) : pv xs d = pv ys d := by
  induction d with
  | zero => rw [pv_zero, pv_zero]
  | succ d ih => rw [pv_succ, pv_succ, ih, heq]
theorem val_eq_of {xs ys : List Nat} (heq : ∀ j, lim xs j = lim ys j) : val xs = val ys := by
  have := pv_eq_of heq (xs.length + ys.length)
  rwa [pv_len (by omega), pv_len (by omega)] at this
/-- How two numbers compare, as Go says it. -/
def sg (a b : Nat) : Int := if a < b then -1 else if b < a then 1 else 0
theorem sg_lt {a b : Nat} (h : a < b) : sg a b = -1 := if_pos h
theorem sg_gt {a b : Nat} (h : b < a) : sg a b = 1 := by unfold sg; rw [if_neg (by omega), if_pos h]
theorem sg_eq {a b : Nat} (h : a = b) : sg a b = 0 := by unfold sg; rw [if_neg (by omega), if_neg (by omega)]
theorem val_trim {xs : List Nat} (h : Sm xs) : val (xs.take (tlen xs)) = val xs := by rw [← dg_val h, val_dg]
theorem tlen_mono {xs ys : List Nat} (hx : Sm xs) (hy : Sm ys) (h : val xs ≤ val ys) : tlen xs ≤ tlen ys := by
  rw [← len_dg_val hx]
  refine len_dg_le (Nat.lt_of_le_of_lt h ?_)
  rw [← val_trim hy]
  have := val_lt (hy.take (tlen ys))
  rwa [List.length_take, Nat.min_eq_left (tlen_le ys)] at this

end Go.Proofs.Ytefcpcekoihgjaa
