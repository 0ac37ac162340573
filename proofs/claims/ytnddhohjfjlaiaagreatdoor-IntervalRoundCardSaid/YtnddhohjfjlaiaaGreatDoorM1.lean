/-
  Several texts in one, in build order: Num N2 Mem App W1 W2.
-/
import Derived.WalkKit
import Derived.WalkLawsBesides
import Derived.Laws.OwnMore
import Derived.Deep.Draws
import Derived.Laws.Rows
import Derived.Deep.AppendLies
import Derived.Maps.AppendAt
import Derived.Deep.QuietTactic
import Derived.BigQuiet
import Derived.Test.YtnddhohjfjlaiaaGreatDoorProg
import Derived.OwnWalk
import Derived.Laws.MakeOwn

/-
  Plain facts on natural numbers that are written as lists of limbs of 32 bits, the least one first. No program is named here.
-/
namespace Go.Proofs.YtnddhohjfjlaiaaGreatDoor

def val : List Nat → Nat
  | [] => 0
  | x :: xs => x + 4294967296 * val xs
def Sm (xs : List Nat) : Prop := ∀ x ∈ xs, x < 4294967296
def lim (xs : List Nat) (k : Nat) : Nat := xs.getD k 0
def pw : Nat → Nat
  | 0 => 1
  | k + 1 => 4294967296 * pw k
/-- The value of the first k limbs. -/
def pv (xs : List Nat) (k : Nat) : Nat := val (xs.take k)
/-- The length without the limbs 0 at the end. -/
def tlen : List Nat → Nat
  | [] => 0
  | x :: xs => if tlen xs = 0 then (if x = 0 then 0 else 1) else tlen xs + 1
def dgF : Nat → Nat → List Nat
  | 0, _ => []
  | f + 1, n => if n = 0 then [] else n % 4294967296 :: dgF f (n / 4294967296)
/-- The limbs of a number. -/
def dg (n : Nat) : List Nat := dgF n n

theorem dgF_of {f g n : Nat} (hf : n ≤ f) (hg : n ≤ g) : dgF f n = dgF g n := by
  induction f generalizing g n with
  | zero =>
    have : n = 0 := by omega
    subst this
    cases g <;> simp [dgF]
  | succ f ih =>
    cases g with
    | zero =>
      have : n = 0 := by omega
      subst this
      simp [dgF]
    | succ g =>
      simp only [dgF]
      by_cases h : n = 0
      · simp [h]
      · rw [if_neg h, if_neg h, ih (g := g) (by omega) (by omega)]
theorem dg_zero : dg 0 = [] := rfl
theorem dg_pos {n : Nat} (h : n ≠ 0) : dg n = n % 4294967296 :: dg (n / 4294967296) := by
  unfold dg
  cases n with
  | zero => exact absurd rfl h
  | succ n =>
    rw [dgF, if_neg h]
    exact congrArg _ (dgF_of (by omega) (Nat.le_refl _))
theorem dg_cons {x m : Nat} (hx : x < 4294967296) (h : x ≠ 0 ∨ m ≠ 0) : dg (x + 4294967296 * m) = x :: dg m := by
  rw [dg_pos (by omega)]
  have h1 : (x + 4294967296 * m) % 4294967296 = x := by omega
  have h2 : (x + 4294967296 * m) / 4294967296 = m := by omega
  rw [h1, h2]
theorem dg_small {x : Nat} (hx : x < 4294967296) (h : x ≠ 0) : dg x = [x] := by
  have := dg_cons (m := 0) hx (.inl h)
  simpa [dg_zero] using this
theorem val_dg (n : Nat) : val (dg n) = n := by
  induction n using Nat.strongRecOn with
  | _ n ih =>
    by_cases h : n = 0
    · subst h; rfl
    · rw [dg_pos h, val, ih _ (by omega)]; omega
theorem sm_dg (n : Nat) : Sm (dg n) := by
  induction n using Nat.strongRecOn with
  | _ n ih =>
    by_cases h : n = 0
    · subst h; intro x hx; cases hx
    · rw [dg_pos h]
      intro x hx
      rcases List.mem_cons.1 hx with rfl | hx
      · omega
      · exact ih _ (by omega) x hx
theorem Sm.tail {x : Nat} {xs : List Nat} (h : Sm (x :: xs)) : Sm xs := fun y hy => h y (List.mem_cons_of_mem _ hy)
theorem Sm.head {x : Nat} {xs : List Nat} (h : Sm (x :: xs)) : x < 4294967296 := h x List.mem_cons_self
theorem Sm.cons {x : Nat} {xs : List Nat} (hx : x < 4294967296) (h : Sm xs) : Sm (x :: xs) := fun y hy => by
  rcases List.mem_cons.1 hy with rfl | hy
  · exact hx
  · exact h y hy
theorem Sm.nil : Sm [] := fun _ h => by cases h
theorem Sm.take {xs : List Nat} (h : Sm xs) (k : Nat) : Sm (xs.take k) := fun y hy => h y (List.mem_of_mem_take hy)
theorem Sm.drop {xs : List Nat} (h : Sm xs) (k : Nat) : Sm (xs.drop k) := fun y hy => h y (List.mem_of_mem_drop hy)
theorem Sm.set {xs : List Nat} (h : Sm xs) (k : Nat) {v : Nat} (hv : v < 4294967296) : Sm (xs.set k v) := fun y hy => by
  rcases List.mem_or_eq_of_mem_set hy with h1 | rfl
  · exact h y h1
  · exact hv
theorem Sm.lim {xs : List Nat} (h : Sm xs) (k : Nat) : lim xs k < 4294967296 := by
  unfold YtnddhohjfjlaiaaGreatDoor.lim
  rw [List.getD_eq_getElem?_getD]
  by_cases hk : k < xs.length
  · rw [List.getElem?_eq_getElem hk]; exact h _ (List.getElem_mem hk)
  · rw [List.getElem?_eq_none (by omega)]; simp
theorem Sm.replicate (n : Nat) : Sm (List.replicate n 0) := fun y hy => by rw [(List.mem_replicate.1 hy).2]; omega

theorem pw_pos (k : Nat) : 0 < pw k := by induction k with | zero => decide | succ k ih => rw [pw]; omega
theorem pw_add (j k : Nat) : pw (j + k) = pw j * pw k := by
  induction k with
  | zero => simp [pw]
  | succ k ih => rw [← Nat.add_assoc, pw, ih, pw, Nat.mul_left_comm]
theorem pw_mono {j k : Nat} (h : j ≤ k) : pw j ≤ pw k := by
  obtain ⟨d, rfl⟩ := Nat.le.dest h
  rw [pw_add]
  exact Nat.le_mul_of_pos_right _ (pw_pos d)

theorem lim_cons_zero (x : Nat) (xs : List Nat) : lim (x :: xs) 0 = x := rfl
theorem lim_cons_succ (x : Nat) (xs : List Nat) (k : Nat) : lim (x :: xs) (k + 1) = lim xs k := by simp [lim]
theorem lim_of_ge {xs : List Nat} {k : Nat} (h : xs.length ≤ k) : lim xs k = 0 := by simp [lim, List.getElem?_eq_none h]
theorem lim_get {xs : List Nat} {k : Nat} (h : k < xs.length) : lim xs k = xs[k] := by simp [lim, List.getElem?_eq_getElem h]
theorem lim_take {xs : List Nat} {j k : Nat} (h : k < j) : lim (xs.take j) k = lim xs k := by simp [lim, h]
theorem lim_drop {xs : List Nat} {j k : Nat} : lim (xs.drop j) k = lim xs (j + k) := by simp [lim, List.getElem?_drop]
theorem lim_set_eq {xs : List Nat} {k v : Nat} (h : k < xs.length) : lim (xs.set k v) k = v := by simp [lim, h]
theorem lim_set_ne {xs : List Nat} {j k v : Nat} (h : j ≠ k) : lim (xs.set j v) k = lim xs k := by simp [lim, List.getElem?_set_ne h]
theorem lim_replicate (n k : Nat) : lim (List.replicate n 0) k = 0 := by
  simp only [lim, List.getD_eq_getElem?_getD, List.getElem?_replicate]; split <;> rfl

theorem pv_zero (xs : List Nat) : pv xs 0 = 0 := by simp [pv, val]
theorem pv_cons (x : Nat) (xs : List Nat) (k : Nat) : pv (x :: xs) (k + 1) = x + 4294967296 * pv xs k := by simp [pv, val]
theorem pv_nil (k : Nat) : pv [] k = 0 := by simp [pv, val]
theorem pv_succ (xs : List Nat) (k : Nat) : pv xs (k + 1) = pv xs k + pw k * lim xs k := by
  induction xs generalizing k with
  | nil => simp [pv_nil, lim]
  | cons x xs ih =>
    cases k with
    | zero => rw [pv_cons, pv_zero, pv_zero, lim_cons_zero]; simp [pw]
    | succ k => rw [pv_cons, pv_cons, ih, lim_cons_succ, pw, Nat.mul_add, Nat.mul_assoc]; omega
theorem pv_len {xs : List Nat} {k : Nat} (h : xs.length ≤ k) : pv xs k = val xs := by rw [pv, List.take_of_length_le h]
theorem pv_full (xs : List Nat) : pv xs xs.length = val xs := pv_len (Nat.le_refl _)
theorem pv_lt {xs : List Nat} (h : Sm xs) (k : Nat) : pv xs k < pw k := by
  induction k with
  | zero => rw [pv_zero]; decide
  | succ k ih =>
    rw [pv_succ, pw]
    have h1 := h.lim k
    have h2 : pw k * lim xs k ≤ pw k * 4294967295 := Nat.mul_le_mul_left _ (by omega)
    omega
theorem val_lt {xs : List Nat} (h : Sm xs) : val xs < pw xs.length := by rw [← pv_full]; exact pv_lt h _
theorem pv_set_le {xs : List Nat} {j k v : Nat} (h : k ≤ j) : pv (xs.set j v) k = pv xs k := by
  unfold pv; rw [List.take_set_of_le h]
theorem pv_set {xs : List Nat} {k v : Nat} (h : k < xs.length) : pv (xs.set k v) (k + 1) = pv xs k + pw k * v := by
  rw [pv_succ, pv_set_le (Nat.le_refl _), lim_set_eq h]
theorem val_append (xs ys : List Nat) : val (xs ++ ys) = val xs + pw xs.length * val ys := by
  induction xs with
  | nil => simp [val, pw]
  | cons x xs ih => rw [List.cons_append, val, ih, val, List.length_cons, pw, Nat.mul_add, Nat.mul_assoc]; omega
theorem val_split (xs : List Nat) (k : Nat) (h : k ≤ xs.length) : val xs = pv xs k + pw k * val (xs.drop k) := by
  have := val_append (xs.take k) (xs.drop k)
  rw [List.take_append_drop, List.length_take, Nat.min_eq_left h] at this
  exact this
theorem val_replicate (n : Nat) : val (List.replicate n 0) = 0 := by
  induction n with
  | zero => rfl
  | succ n ih => rw [List.replicate_succ, val, ih]
theorem pv_replicate (n k : Nat) : pv (List.replicate n 0) k = 0 := by
  unfold pv; rw [List.take_replicate]; exact val_replicate _

theorem tlen_le (xs : List Nat) : tlen xs ≤ xs.length := by
  induction xs with
  | nil => simp [tlen]
  | cons x xs ih => simp only [tlen, List.length_cons]; split <;> (try split) <;> omega
theorem tlen_zero {xs : List Nat} (h : tlen xs = 0) : ∀ k, lim xs k = 0 := by
  induction xs with
  | nil => intro k; simp [lim]
  | cons x xs ih =>
    simp only [tlen] at h
    split at h
    · rename_i h0
      split at h
      · rename_i hx
        intro k
        cases k with
        | zero => rw [lim_cons_zero]; exact hx
        | succ k => rw [lim_cons_succ]; exact ih h0 k
      · omega
    · omega
theorem tlen_hi (xs : List Nat) : ∀ k, tlen xs ≤ k → lim xs k = 0 := by
  induction xs with
  | nil => intro k _; simp [lim]
  | cons x xs ih =>
    intro k hk
    simp only [tlen] at hk
    split at hk
    · rename_i h0
      cases k with
      | zero =>
        split at hk
        · rename_i hx; rw [lim_cons_zero]; exact hx
        · omega
      | succ k => rw [lim_cons_succ]; exact ih k (by omega)
    · cases k with
      | zero => omega
      | succ k => rw [lim_cons_succ]; exact ih k (by omega)
theorem tlen_top {xs : List Nat} (h : tlen xs ≠ 0) : lim xs (tlen xs - 1) ≠ 0 := by
  induction xs with
  | nil => simp [tlen] at h
  | cons x xs ih =>
    simp only [tlen] at h ⊢
    split at h
    · rename_i h0
      rw [if_pos h0]
      split at h
      · exact absurd rfl h
      · rename_i hx; rw [if_neg hx]; simpa [lim_cons_zero] using hx
    · rename_i h0
      rw [if_neg h0]
      have := ih h0
      have e : tlen xs + 1 - 1 = (tlen xs - 1) + 1 := by omega
      rw [e, lim_cons_succ]; exact this
theorem tlen_of {xs : List Nat} {k : Nat} (h1 : ∀ j, k ≤ j → lim xs j = 0) (h2 : k = 0 ∨ lim xs (k - 1) ≠ 0) : tlen xs = k := by
  rcases Nat.lt_trichotomy (tlen xs) k with h | h | h
  · rcases h2 with h2 | h2
    · omega
    · exact absurd (tlen_hi xs (k - 1) (by omega)) h2
  · exact h
  · exact absurd (h1 (tlen xs - 1) (by omega)) (tlen_top (by omega))
theorem val_zero_of {xs : List Nat} (h : ∀ k, lim xs k = 0) : val xs = 0 := by
  induction xs with
  | nil => rfl
  | cons x xs ih =>
    have h0 := h 0
    rw [lim_cons_zero] at h0
    rw [val, h0, ih (fun k => by have := h (k + 1); rwa [lim_cons_succ] at this)]
theorem tlen_zero_iff {xs : List Nat} : tlen xs = 0 ↔ val xs = 0 := by
  constructor
  · intro h; exact val_zero_of (tlen_zero h)
  · intro h
    induction xs with
    | nil => rfl
    | cons x xs ih =>
      rw [val] at h
      have hx : x = 0 := by omega
      have hv : val xs = 0 := by omega
      simp [tlen, hx, ih hv]
theorem dg_val {xs : List Nat} (h : Sm xs) : dg (val xs) = xs.take (tlen xs) := by
  induction xs with
  | nil => rfl
  | cons x xs ih =>
    have ih' := ih h.tail
    by_cases h0 : tlen xs = 0
    · have hv := tlen_zero_iff.1 h0
      by_cases hx : x = 0
      · simp [tlen, h0, hx, val, hv, dg_zero]
      · have : tlen (x :: xs) = 1 := by simp [tlen, h0, hx]
        rw [this, val, hv]
        simp [dg_small h.head hx]
    · have hv : val xs ≠ 0 := fun e => h0 (tlen_zero_iff.2 e)
      have : tlen (x :: xs) = tlen xs + 1 := by simp [tlen, h0]
      rw [this, val, dg_cons h.head (.inr hv), ih', List.take_succ_cons]
theorem len_dg_val {xs : List Nat} (h : Sm xs) : (dg (val xs)).length = tlen xs := by
  rw [dg_val h, List.length_take, Nat.min_eq_left (tlen_le xs)]
theorem tlen_dg (n : Nat) : tlen (dg n) = (dg n).length := by
  have := len_dg_val (sm_dg n)
  rw [val_dg] at this
  exact this.symm
theorem len_dg_le {n k : Nat} (h : n < pw k) : (dg n).length ≤ k := by
  induction k generalizing n with
  | zero => simp [pw] at h; subst h; simp [dg_zero]
  | succ k ih =>
    by_cases h0 : n = 0
    · subst h0; simp [dg_zero]
    · rw [dg_pos h0, List.length_cons]
      rw [pw] at h
      have := ih (n := n / 4294967296) (Nat.div_lt_of_lt_mul h)
      omega
theorem dg_inj {m n : Nat} (h : dg m = dg n) : m = n := by rw [← val_dg m, h, val_dg]
theorem dg_nil_iff {n : Nat} : dg n = [] ↔ n = 0 := ⟨fun h => dg_inj (h.trans dg_zero.symm), fun h => by rw [h, dg_zero]⟩
theorem lt_of_len {n k : Nat} (h : (dg n).length ≤ k) : n < pw k := by
  have := val_lt (sm_dg n)
  rw [val_dg] at this
  exact Nat.lt_of_lt_of_le this (pw_mono h)

/-! ### Comparing -/
theorem pv_lt_of {xs ys : List Nat} (hx : Sm xs) (k : Nat) (heq : ∀ j, k < j → lim xs j = lim ys j) (h : lim xs k < lim ys k) (d : Nat) : pv xs (k + 1 + d) < pv ys (k + 1 + d) := by
  induction d with
  | zero =>
    rw [Nat.add_zero, pv_succ, pv_succ]
    have h1 := pv_lt hx k
    have h2 : pw k * (lim xs k + 1) ≤ pw k * lim ys k := Nat.mul_le_mul_left _ h
    rw [Nat.mul_add, Nat.mul_one] at h2
    omega
  | succ d ih =>
    rw [← Nat.add_assoc, pv_succ, pv_succ, heq (k + 1 + d) (by omega)]
    omega
theorem val_lt_of {xs ys : List Nat} (hx : Sm xs) (k : Nat) (heq : ∀ j, k < j → lim xs j = lim ys j) (h : lim xs k < lim ys k) : val xs < val ys := by
  have := pv_lt_of hx k heq h (xs.length + ys.length)
  rwa [pv_len (by omega), pv_len (by omega)] at this
theorem pv_eq_of {xs ys : List Nat} (heq : ∀ j, lim xs j = lim ys j) (d : Nat) : pv xs d = pv ys d := by
  induction d with
  | zero => rw [pv_zero, pv_zero]
  | succ d ih => rw [pv_succ, pv_succ, ih, heq]
theorem val_eq_of {xs ys : List Nat} (heq : ∀ j, lim xs j = lim ys j) : val xs = val ys := by
  have := pv_eq_of heq (xs.length + ys.length)
  rwa [pv_len (by omega), pv_len (by omega)] at this
/-- How two numbers compare, as Go says it. -/
def sg (a b : Nat) : Int := if a < b then -1 else if b < a then 1 else 0
theorem sg_lt {a b : Nat} (h : a < b) : sg a b = -1 := if_pos h
theorem sg_gt {a b : Nat} (h : b < a) : sg a b = 1 := by unfold sg; rw [if_neg (by omega), if_pos h]
theorem sg_eq {a b : Nat} (h : a = b) : sg a b = 0 := by unfold sg; rw [if_neg (by omega), if_neg (by omega)]
theorem val_trim {xs : List Nat} (h : Sm xs) : val (xs.take (tlen xs)) = val xs := by rw [← dg_val h, val_dg]
theorem tlen_mono {xs ys : List Nat} (hx : Sm xs) (hy : Sm ys) (h : val xs ≤ val ys) : tlen xs ≤ tlen ys := by
  rw [← len_dg_val hx]
  refine len_dg_le (Nat.lt_of_le_of_lt h ?_)
  rw [← val_trim hy]
  have := val_lt (hy.take (tlen ys))
  rwa [List.length_take, Nat.min_eq_left (tlen_le ys)] at this

end Go.Proofs.YtnddhohjfjlaiaaGreatDoor

/-
  Plain facts on lists of limbs: what a loop's round does to them.
-/
namespace Go.Proofs.YtnddhohjfjlaiaaGreatDoor
set_option linter.unusedVariables false
set_option linter.unusedSimpArgs false

/-! ### One limb written -/
theorem store_step {S : List Nat} {k : Nat} (t : Nat) (hk : k < S.length) : pv (S.set k (t % 4294967296)) (k + 1) + pw (k + 1) * (t / 4294967296) = pv S k + pw k * t := by
  rw [pv_set hk, pw]
  have h : pw k * t = pw k * (t % 4294967296) + pw k * (4294967296 * (t / 4294967296)) := by rw [← Nat.mul_add, Nat.mod_add_div]
  rw [h, ← Nat.mul_assoc, Nat.mul_comm 4294967296 (pw k)]
  omega
theorem add_step {S xs ys : List Nat} {k cc n : Nat} (hk : k < n) (hcc : cc ≤ 1) (hx : lim xs k < 4294967296) (hy : lim ys k < 4294967296)
    (h : S.length = n + 1 ∧ Sm S ∧ pv S k + pw k * cc = pv xs k + pv ys k) :
    (S.set k ((cc + (lim xs k + lim ys k)) % 4294967296)).length = n + 1 ∧ Sm (S.set k ((cc + (lim xs k + lim ys k)) % 4294967296)) ∧
      pv (S.set k ((cc + (lim xs k + lim ys k)) % 4294967296)) (k + 1) + pw (k + 1) * ((cc + (lim xs k + lim ys k)) / 4294967296) = pv xs (k + 1) + pv ys (k + 1) := by
  obtain ⟨h1, h2, h3⟩ := h
  refine ⟨by rw [List.length_set, h1], h2.set _ (by omega), ?_⟩
  rw [store_step _ (by omega), pv_succ xs, pv_succ ys, Nat.mul_add, Nat.mul_add]
  omega
theorem add_end {S xs ys : List Nat} {cc n : Nat} (hcc : cc ≤ 1) (hx : xs.length ≤ n) (hy : ys.length ≤ n) (h : S.length = n + 1 ∧ Sm S ∧ pv S n + pw n * cc = pv xs n + pv ys n) :
    (S.set n cc).length = n + 1 ∧ Sm (S.set n cc) ∧ val (S.set n cc) = val xs + val ys := by
  obtain ⟨h1, h2, h3⟩ := h
  have hl : (S.set n cc).length = n + 1 := by rw [List.length_set, h1]
  refine ⟨hl, h2.set _ (by omega), ?_⟩
  rw [← pv_full, hl, pv_set (by omega), h3, pv_len hx, pv_len hy]

theorem sub_step {S xs ys : List Nat} {k bw n v q : Nat} (hk : k < n) (hv : v < 4294967296) (hvq : v + lim ys k + bw = lim xs k + 4294967296 * q)
    (h : S.length = n ∧ Sm S ∧ pv S k + pv ys k = pv xs k + pw k * bw) :
    (S.set k v).length = n ∧ Sm (S.set k v) ∧ pv (S.set k v) (k + 1) + pv ys (k + 1) = pv xs (k + 1) + pw (k + 1) * q := by
  obtain ⟨h1, h2, h3⟩ := h
  refine ⟨by rw [List.length_set, h1], h2.set _ hv, ?_⟩
  rw [pv_set (by omega), pv_succ ys, pv_succ xs, pw]
  have e : pw k * (v + lim ys k + bw) = pw k * (lim xs k + 4294967296 * q) := by rw [hvq]
  rw [Nat.mul_add, Nat.mul_add, Nat.mul_add, ← Nat.mul_assoc, Nat.mul_comm (pw k) 4294967296] at e
  omega
theorem pv_of_lt {ys : List Nat} {n : Nat} (h : val ys < pw n) : pv ys n = val ys := by
  rcases Nat.lt_or_ge n ys.length with hl | hl
  · have hs := val_split ys n (by omega)
    have hp := pw_pos n
    have h0 : val (ys.drop n) = 0 := by
      rcases Nat.eq_zero_or_pos (val (ys.drop n)) with h0 | h0
      · exact h0
      · have := Nat.le_mul_of_pos_right (pw n) h0; omega
    rw [h0] at hs
    omega
  · exact pv_len hl
theorem sub_end {S xs ys : List Nat} {bw n : Nat} (hx : xs.length = n) (hsx : Sm xs) (hle : val ys ≤ val xs) (h : S.length = n ∧ Sm S ∧ pv S n + pv ys n = pv xs n + pw n * bw) :
    val S = val xs - val ys := by
  obtain ⟨h1, h2, h3⟩ := h
  have hxl := val_lt hsx
  have hsl := val_lt h2
  rw [hx] at hxl
  rw [h1] at hsl
  have a1 : pv ys n = val ys := pv_of_lt (by omega)
  have a2 : pv S n = val S := pv_len (by omega)
  have a3 : pv xs n = val xs := pv_len (by omega)
  rw [a1, a2, a3] at h3
  rcases Nat.eq_zero_or_pos bw with h0 | h0
  · subst h0; omega
  · have := Nat.le_mul_of_pos_right (pw n) h0; omega

/-! ### A multiple added -/
theorem pv_congr {xs ys : List Nat} {k : Nat} (h : ∀ j, j < k → lim xs j = lim ys j) : pv xs k = pv ys k := by
  induction k with
  | zero => rw [pv_zero, pv_zero]
  | succ k ih => rw [pv_succ, pv_succ, ih (fun j hj => h j (by omega)), h k (by omega)]
theorem pv_split (S : List Nat) (o m : Nat) : pv S (o + m) = pv S o + pw o * pv (S.drop o) m := by
  induction m with
  | zero => rw [Nat.add_zero, pv_zero, Nat.mul_zero, Nat.add_zero]
  | succ m ih => rw [← Nat.add_assoc, pv_succ, ih, pv_succ, lim_drop, pw_add, Nat.mul_add, Nat.mul_assoc, Nat.add_assoc]
theorem pv_drop_set {T : List Nat} {o k v : Nat} (h : o + k < T.length) : pv ((T.set (o + k) v).drop o) (k + 1) = pv (T.drop o) k + pw k * v := by
  rw [pv_succ, lim_drop, lim_set_eq h]
  congr 1
  exact pv_congr fun j hj => by rw [lim_drop, lim_drop, lim_set_ne (by omega)]
theorem mul_bound {x y : Nat} (hx : x < 4294967296) (hy : y < 4294967296) : x * y ≤ 18446744065119617025 :=
  Nat.le_trans (Nat.mul_le_mul (show x ≤ 4294967295 by omega) (show y ≤ 4294967295 by omega)) (Nat.le_refl _)
/-- The state of a block into which a multiple is added from place o on: k limbs are done. -/
def AmInv (S T ys : List Nat) (o x k cc : Nat) : Prop :=
  T.length = S.length ∧ Sm T ∧ (∀ j, j < o ∨ o + k ≤ j → lim T j = lim S j) ∧ pv (T.drop o) k + pw k * cc = pv (S.drop o) k + pv ys k * x
theorem am_step {S T ys : List Nat} {o x k cc : Nat} (hk : o + k < S.length) (h : AmInv S T ys o x k cc) :
    AmInv S (T.set (o + k) ((cc + (x * lim ys k + lim T (o + k))) % 4294967296)) ys o x (k + 1) ((cc + (x * lim ys k + lim T (o + k))) / 4294967296) := by
  obtain ⟨h1, h2, h3, h4⟩ := h
  refine ⟨by rw [List.length_set, h1], h2.set _ (by omega), fun j hj => ?_, ?_⟩
  · rw [lim_set_ne (by omega)]; exact h3 j (by omega)
  · rw [pv_drop_set (by omega), pv_succ, pv_succ, lim_drop, pw, h3 (o + k) (by omega), Nat.add_mul]
    generalize ht : cc + (x * lim ys k + lim S (o + k)) = t
    have e : pw k * t = pw k * (t % 4294967296) + pw k * (4294967296 * (t / 4294967296)) := by rw [← Nat.mul_add, Nat.mod_add_div]
    rw [← Nat.mul_assoc, Nat.mul_comm (pw k) 4294967296] at e
    have e2 : pw k * t = pw k * cc + (pw k * lim ys k * x + pw k * lim S (o + k)) := by
      rw [← ht, Nat.mul_add, Nat.mul_add, Nat.mul_comm x, Nat.mul_assoc]
    omega
theorem am_start (S ys : List Nat) (o x : Nat) (hs : Sm S) : AmInv S S ys o x 0 0 := ⟨rfl, hs, fun _ _ => rfl, by simp [pv_zero]⟩

/-- The state of a product: k limbs of X have been taken. -/
def MulInv (P X Y : List Nat) (n m k : Nat) : Prop := P.length = n + m ∧ Sm P ∧ pv P (k + m) = pv X k * val Y
theorem mul_start (X Y : List Nat) (n m : Nat) : MulInv (List.replicate (n + m) 0) X Y n m 0 := ⟨List.length_replicate, Sm.replicate _, by rw [pv_replicate, pv_zero, Nat.zero_mul]⟩
theorem mul_step {P T X Y : List Nat} {n m k cc : Nat} (hk : k < n) (hY : Y.length = m) (hcc : cc < 4294967296) (h : MulInv P X Y n m k) (ha : AmInv P T Y k (lim X k) m cc) :
    MulInv (T.set (k + m) cc) X Y n m (k + 1) := by
  obtain ⟨h1, h2, h3⟩ := h
  obtain ⟨a1, a2, a3, a4⟩ := ha
  refine ⟨by rw [List.length_set, a1, h1], a2.set _ hcc, ?_⟩
  rw [show k + 1 + m = k + m + 1 by omega, pv_set (by omega), pv_split, pv_succ, Nat.add_mul, ← h3, pv_split P, pw_add, Nat.mul_assoc, Nat.mul_assoc, pv_congr (xs := T) (ys := P) fun j hj => a3 j (by omega)]
  have e : pw k * (pv (T.drop k) m + pw m * cc) = pw k * (pv (P.drop k) m + pv Y m * lim X k) := by rw [a4]
  rw [Nat.mul_add, Nat.mul_add, pv_len (xs := Y) (by omega)] at e
  rw [Nat.mul_comm (lim X k) (val Y)]
  omega
theorem mul_end {P X Y : List Nat} {n m : Nat} (hX : X.length = n) (h : MulInv P X Y n m n) : val P = val X * val Y := by
  obtain ⟨h1, h2, h3⟩ := h
  rw [← pv_full, h1, h3, pv_len (by omega)]
end Go.Proofs.YtnddhohjfjlaiaaGreatDoor

/-
  Words for slices of limbs in memory: 'Rd': a slice reads as a list of limbs; 'Blk': a block that is known whole.
-/
namespace Go.Proofs.YtnddhohjfjlaiaaGreatDoor
open Go.RowKit

theorem hide {p : Prop} (h : p) : Hid p := h
theorem unhide {p : Prop} (h : Hid p) : p := h

theorem quiet_add_same {P : Program} {f : FuncId} {args : Array Value} {w : World} {a n : Nat} {v : Value}
    (h : Calls P f args (w.drewN (a + n)) fun e w' => e = .returned v ∧ w' = w.drewN (a + n)) :
    Calls P f args (w.drewN (a + n)) fun e w'' => e = .returned v ∧ ∃ m, w'' = w.drewN (a + m) :=
  h.mono fun _ _ ⟨he, hm⟩ => ⟨he, n, hm⟩
theorem quiet_add_left {P : Program} {f : FuncId} {args : Array Value} {w : World} {a n : Nat} {v : Value}
    (h : Calls P f args (w.drewN (a + n)) fun e w' => e = .returned v ∧ w.drewN (a + n) = w') :
    Calls P f args (w.drewN (a + n)) fun e w'' => e = .returned v ∧ ∃ m, w'' = w.drewN (a + m) :=
  h.mono fun _ _ ⟨he, hm⟩ => ⟨he, n, hm.symm⟩
theorem quiet_left {P : Program} {f : FuncId} {args : Array Value} {w : World} {n : Nat} {v : Value}
    (h : Calls P f args (w.drewN n) fun e w' => e = .returned v ∧ w.drewN n = w') : Calls P f args (w.drewN n) fun e w'' => e = .returned v ∧ ∃ m, w'' = w.drewN m :=
  h.mono fun _ _ ⟨he, hm⟩ => ⟨he, n, hm.symm⟩
theorem quiet_same {P : Program} {f : FuncId} {args : Array Value} {w : World} {n : Nat} {v : Value}
    (h : Calls P f args (w.drewN n) fun e w' => e = .returned v ∧ w' = w.drewN n) : Calls P f args (w.drewN n) fun e w'' => e = .returned v ∧ ∃ m, w'' = w.drewN m :=
  h.mono fun _ _ ⟨he, hm⟩ => ⟨he, n, hm⟩

theorem drewN3 (w : World) (a b c : Nat) : ∃ m, ((w.drewN a).drewN b).drewN c = w.drewN m := ⟨_, by rw [World.drewN_drewN, World.drewN_drewN]⟩
theorem drewN2 (w : World) (a b : Nat) : ∃ m, (w.drewN a).drewN b = w.drewN m := ⟨_, by rw [World.drewN_drewN]⟩

/-- One limb as a value. -/
abbrev U (n : Nat) : Value := .int .u32 (n : Int)

structure Rd (w : World) (A : Option Addr) (n c : Nat) (xs : List Nat) : Prop where
  len : xs.length = n
  sm : Sm xs
  cap : n ≤ c
  at_ : 0 < n → ∃ b off, A = some ⟨b, off, none⟩ ∧ b < w.heap.size ∧ ∀ k, k < n → w.cell? ⟨b, off + k, none⟩ = some (.int .u32 (lim xs k : Nat))

/-- The slice does not lie in block g. -/
def Away (A : Option Addr) (n g : Nat) : Prop := 0 < n → ∀ ad, A = some ad → ad.block ≠ g

section
variable {w w' : World} {A : Option Addr} {n c : Nat} {xs : List Nat}

theorem Rd.empty (w : World) (A : Option Addr) (c : Nat) : Rd w A 0 c [] := ⟨rfl, Sm.nil, Nat.zero_le _, fun h => absurd h (by omega)⟩
theorem Rd.get (h : Rd w A n c xs) {k : Nat} (hk : k < n) : ∃ b off, A = some ⟨b, off, none⟩ ∧ b < w.heap.size ∧ w.cell? ⟨b, off + k, none⟩ = some (.int .u32 (lim xs k : Nat)) := by
  obtain ⟨b, off, hA, hb, hc⟩ := h.at_ (by omega)
  exact ⟨b, off, hA, hb, hc k hk⟩
theorem Rd.keep (h : Rd w A n c xs) (hs : w.heap.size ≤ w'.heap.size) (hk : ∀ p : Addr, p.block < w.heap.size → (0 < n → A.map (·.block) = some p.block) → w'.cell? p = w.cell? p) : Rd w' A n c xs :=
  ⟨h.len, h.sm, h.cap, fun hn => by
    obtain ⟨b, off, hA, hb, hc⟩ := h.at_ hn
    exact ⟨b, off, hA, by omega, fun k hkn => (hk _ hb (fun _ => by rw [hA]; rfl)).trans (hc k hkn)⟩⟩
theorem Rd.below (h : Rd w A n c xs) (hb : Below w.heap.size w w') : Rd w' A n c xs := h.keep hb.size fun _ hp _ => hb.cell hp
theorem Rd.grown (h : Rd w A n c xs) {g : Nat} (hg : w.grownBy w' (some g)) (ha : Away A n g) : Rd w' A n c xs := by
  refine ⟨h.len, h.sm, h.cap, fun hn => ?_⟩
  obtain ⟨b, off, hA, hb, hc⟩ := h.at_ hn
  have hne : b ≠ g := ha hn _ hA
  exact ⟨b, off, hA, Nat.lt_of_lt_of_le hb hg.size, fun k hkn => (World.cell?_of_block (hg.block b hb (by simpa using hne))).trans (hc k hkn)⟩
theorem Rd.take (h : Rd w A n c xs) {k : Nat} (hk : k ≤ n) : Rd w A k c (xs.take k) := by
  refine ⟨by rw [List.length_take, h.len]; omega, h.sm.take k, by have := h.cap; omega, fun hk0 => ?_⟩
  obtain ⟨b, off, hA, hb, hc⟩ := h.at_ (by omega)
  exact ⟨b, off, hA, hb, fun j hj => by rw [lim_take hj]; exact hc j (by omega)⟩
end

/-- A block that is known whole. -/
def Blk (w : World) (g : Nat) (cs : Array Value) : Prop := w.heap[g]? = some (.cells cs 57 (0, 0))
/-- The cells of a list of limbs. -/
def arr (xs : List Nat) : Array Value := (xs.map fun x => Value.int .u32 (x : Nat)).toArray

section
variable {w w' : World} {g : Nat} {cs : Array Value}
theorem Blk.lt (h : Blk w g cs) : g < w.heap.size := by
  rcases Nat.lt_or_ge g w.heap.size with hlt | hge
  · exact hlt
  · unfold Blk at h; rw [Array.getElem?_eq_none hge] at h; cases h
theorem Blk.cell (h : Blk w g cs) (i : Nat) : w.cell? ⟨g, i, none⟩ = cs[i]? := cell_of_row w g i cs 57 (0, 0) h
theorem Blk.frozen (h : Blk w g cs) (i : Nat) : w.frozen? ⟨g, i, none⟩ = false := by
  unfold Blk at h
  simp [World.frozen?, h]
theorem Blk.new (w : World) (cs : Array Value) : Blk (w.alloc (.cells cs 57)) w.heap.size cs := heap_alloc_new w _
theorem Blk.drew (h : Blk w g cs) : Blk w.drew g cs := h
theorem Blk.drewN (h : Blk w g cs) (n : Nat) : Blk (w.drewN n) g cs := h
theorem Blk.alloc (h : Blk w g cs) (o : Obj) : Blk (w.alloc o) g cs := (Below.heap_alloc w o g h.lt).trans h
theorem Blk.set_ (h : Blk w g cs) (i : Nat) (u : Value) : Blk (w.setCell ⟨g, i, none⟩ u) g (cs.setIfInBounds i u) := by
  unfold Blk at h ⊢
  simp [World.setCell, Array.getElem?_modify, h]
theorem Blk.far (h : Blk w g cs) {p : Addr} (hp : g ≠ p.block) (u : Value) : Blk (w.setCell p u) g cs := (Below.heap_setCell w p u g hp).trans h
theorem Blk.below {B : Nat} (h : Blk w g cs) (hb : Below B w w') (hg : g < B) : Blk w' g cs := (hb.block g hg).trans h
theorem Blk.grown {row : Option Nat} (h : Blk w g cs) (hb : w.grownBy w' row) (hg : some g ≠ row) : Blk w' g cs := (hb.block g h.lt hg).trans h
end
theorem arr_size (xs : List Nat) : (arr xs).size = xs.length := by simp [arr]
theorem arr_get {xs : List Nat} {i : Nat} (h : i < xs.length) : (arr xs)[i]? = some (.int .u32 (lim xs i : Nat)) := by
  simp [arr, lim, List.getElem?_eq_getElem h]
theorem arr_set (xs : List Nat) (i v : Nat) : (arr xs).setIfInBounds i (.int .u32 (v : Nat)) = arr (xs.set i v) := by
  simp [arr, List.map_set]
section
variable {w w' : World} {g : Nat} {xs : List Nat}
theorem blk_cell (h : Blk w g (arr xs)) {i : Nat} (hi : i < xs.length) : w.cell? ⟨g, i, none⟩ = some (.int .u32 (lim xs i : Nat)) := (h.cell i).trans (arr_get hi)
theorem blk_set (h : Blk w g (arr xs)) (i v : Nat) : Blk (w.setCell ⟨g, i, none⟩ (.int .u32 (v : Nat))) g (arr (xs.set i v)) := by
  have := h.set_ i (.int .u32 (v : Nat))
  rwa [arr_set] at this
/-- A part of a known block, read as a slice. -/
theorem blk_rd (h : Blk w g (arr xs)) (hs : Sm xs) {o n c : Nat} (hn : o + n ≤ xs.length) (hc : n ≤ c) : Rd w (some ⟨g, o, none⟩) n c ((xs.drop o).take n) := by
  refine ⟨by rw [List.length_take, List.length_drop]; omega, (hs.drop o).take n, hc, fun _ => ⟨g, o, rfl, h.lt, fun k hk => ?_⟩⟩
  rw [blk_cell h (by omega), lim_take hk, lim_drop]
theorem blk_rd0 (h : Blk w g (arr xs)) (hs : Sm xs) {n c : Nat} (hn : xs.length = n) (hc : n ≤ c) : Rd w (some ⟨g, 0, none⟩) n c xs := by
  have := blk_rd h hs (o := 0) (n := n) (c := c) (by omega) hc
  simpa [List.take_of_length_le (Nat.le_of_eq hn)] using this
end
theorem below_drewN {B : Nat} {a w : World} (h : Below B a w) (n : Nat) : Below B a (w.drewN n) := ⟨h.os, h.tape, h.output, h.size, h.block⟩
theorem rd_of_own {w : World} {base : Nat} {A : Option Addr} {n c : Nat} {xs : List Nat} (h : w.ownsRow base 57 1 (.slice A n c) n (xs.map fun x => Value.int .u32 (x : Nat))) (hs : Sm xs) (hc : n ≤ c) : Rd w A n c xs := by
  have hl : xs.length = n := by have := h.1; simpa using this
  refine ⟨hl, hs, hc, fun hn => ?_⟩
  obtain ⟨g, cap, hv, _, hlt⟩ := h.form hn
  have hA : A = some ⟨g, 0, none⟩ := by injection hv
  subst hA
  refine ⟨g, 0, rfl, hlt, fun k hk => ?_⟩
  have := h.cells (g := g) rfl k (.int .u32 (lim xs k : Nat)) (by rw [List.getElem?_map, List.getElem?_eq_getElem (by omega), lim_get (by omega)]; rfl)
  rwa [show ((⟨g, 0, none⟩ : Addr).add k) = ⟨g, 0 + k, none⟩ from by unfold Addr.add; split <;> simp_all] at this
end Go.Proofs.YtnddhohjfjlaiaaGreatDoor

/-
  append onto a slice of limbs of the call's own, from whatever slice of limbs.
-/
namespace Go.Proofs.YtnddhohjfjlaiaaGreatDoor
open Go.RowKit
set_option linter.unusedVariables false
set_option linter.unusedSimpArgs false

theorem info42 : (Tryz.prog.info? 57).map (fun i => (i.zero, i.size, i.bytes)) = some (some (.int .u32 0), 1, 4) := by kernel_rfl

/-- The slice (A, n, c) is the call's own, from block base on, and its cells are the limbs xs. -/
def Own (w : World) (base : Nat) (A : Option Addr) (n c : Nat) (xs : List Nat) : Prop := w.ownsRow base 57 1 (.slice A n c) n (xs.map fun x => Value.int .u32 (x : Nat))

theorem Own.nil (w : World) (base : Nat) : Own w base none 0 0 [] := World.ownsRow_nil w base 57 1
theorem Own.len {w : World} {base : Nat} {A : Option Addr} {n c : Nat} {xs : List Nat} (h : Own w base A n c xs) : xs.length = n := by have := h.1; simpa using this
theorem Own.cap {w : World} {base : Nat} {A : Option Addr} {n c : Nat} {xs : List Nat} (h : Own w base A n c xs) : n ≤ c := by
  rcases h.2 with ⟨hv, _⟩ | ⟨g, cap, cur, hv, _, _, hnc, _⟩
  · injection hv; omega
  · injection hv; omega
theorem Own.rd {w : World} {base : Nat} {A : Option Addr} {n c : Nat} {xs : List Nat} (h : Own w base A n c xs) (hs : Sm xs) : Rd w A n c xs := rd_of_own h hs h.cap
theorem Own.alloc {w : World} {base : Nat} {A : Option Addr} {n c : Nat} {xs : List Nat} (h : Own w base A n c xs) (o : Obj) : Own (w.alloc o) base A n c xs := World.ownsRow.alloc h o
theorem Own.drew {w : World} {base : Nat} {A : Option Addr} {n c : Nat} {xs : List Nat} (h : Own w base A n c xs) : Own w.drew base A n c xs := h
theorem Own.drewN {w : World} {base : Nat} {A : Option Addr} {n c : Nat} {xs : List Nat} (h : Own w base A n c xs) (k : Nat) : Own (w.drewN k) base A n c xs := h
theorem Own.empty (w : World) (base : Nat) (hb : base ≤ w.heap.size) : Own (w.alloc (.cells #[] 57)) base (some ⟨w.heap.size, 0, none⟩) 0 0 [] :=
  ⟨by simp, .inr ⟨w.heap.size, 0, #[], rfl, hb, heap_alloc_new w _, Nat.le_refl _, Nat.zero_le _, by simp, by simp⟩⟩
/-- The one limb that 'append' lays in a block of its own first. -/
theorem rd_one (w : World) (v : Nat) (hv : v < 4294967296) : Rd (w.alloc (.cells #[.int .u32 (v : Nat)] 57)) (some ⟨w.heap.size, 0, none⟩) 1 1 [v] := by
  have := Blk.new w #[.int .u32 (v : Nat)]
  exact blk_rd0 (xs := [v]) this (Sm.nil.cons hv) rfl (Nat.le_refl _)

theorem nat_slice {t : TypeId} (h : t = 22 ∨ t = 23) : Tryz.prog.underlying t = some (.slice 57) := by
  rcases h with rfl | rfl
  · exact Tryz.underlying22
  · exact Tryz.underlying23

theorem run_app (w : World) (base : Nat) (t t2 ty : TypeId) (ht : t = 22 ∨ t = 23) (ht2 : t2 = 22 ∨ t2 = 23) {A : Option Addr} {n c : Nat} {xs : List Nat} (hown : Own w base A n c xs)
    {A2 : Option Addr} {m c2 : Nat} {ys : List Nat} (hr : Rd w A2 m c2 ys) (hb : n + m ≤ 4194304) (hbase : base ≤ w.heap.size) :
    ∃ A' c' w', (Builtin.append_ #[t, t2] ty #[.slice A n c, .slice A2 m c2]).run Tryz.prog w = .ok (.slice A' (n + m) c') w' ∧ Own w' base A' (n + m) c' (xs ++ ys) ∧ Below base w w' := by
  have hu := nat_slice ht
  have hu2 := nat_slice ht2
  have he : (Builtin.append_ #[t, t2] ty #[.slice A n c, .slice A2 m c2]).run Tryz.prog w = (Builtin.append_ #[t, t] ty #[.slice A n c, .slice A2 m c2]).run Tryz.prog w := by
    simp [Builtin.append_, run_underlying hu, run_underlying hu2]
  rw [he]
  obtain ⟨i0, hi, hz0, hz1, hz2⟩ := info_parts info42
  have hrow : ∀ k, (Value.slice A n c).ownBlock = some k → base ≤ k := fun k hk => (World.ownsRow.lt hown k hk).1
  have fin : ∀ v' w', w'.ownsRow base 57 1 v' (n + m) ((xs.map fun x => Value.int .u32 (x : Nat)) ++ (ys.map fun x => Value.int .u32 (x : Nat))) → w.grownBy w' (Value.slice A n c).ownBlock →
      ∃ A' c', v' = .slice A' (n + m) c' ∧ Own w' base A' (n + m) c' (xs ++ ys) ∧ Below base w w' := by
    intro v' w' h1 h2
    rw [← List.map_append] at h1
    have hbel : Below base w w' := (Below.refl base w).grown h2 hbase hrow
    rcases h1.2 with ⟨hv, hn0⟩ | ⟨g, cap, cur, hv, r⟩
    · refine ⟨none, 0, by rw [hv, hn0], ?_, hbel⟩
      rw [hv] at h1
      show w'.ownsRow base 57 1 (.slice none (n + m) 0) (n + m) _
      rw [hn0] at h1 ⊢
      exact h1
    · exact ⟨_, cap, hv, by rw [hv] at h1; exact h1, hbel⟩
  by_cases hm : m = 0
  · subst hm
    have hy : ys = [] := List.eq_nil_of_length_eq_zero hr.len
    subst hy
    have hrun : (Builtin.append_ #[t, t] ty #[.slice A n c, .slice A2 0 c2]).run Tryz.prog w = .ok (.slice A n c) w := by
      have hcap := hown.cap
      cases A <;> cases A2 <;> simp [Builtin.append_, run_underlying hu, sizeOf, typeInfo, hi, Builtin.lenOf, Builtin.firstCells, loadCells, loadCellsFrom, hcap, storeCells]
    exact ⟨A, c, w, hrun, by simpa using hown, Below.refl _ _⟩
  · obtain ⟨b, off, rfl, hbs, hc⟩ := hr.at_ (by omega)
    obtain ⟨v', w', h1, h2, h3, _⟩ := run_append_own (P := Tryz.prog) w base t ty 57 i0 (.int .u32 0) 1 4 hu hi hz0 hz1 hz2 rfl (by omega) (.slice A n c) n _ hown
      ⟨b, off, none⟩ m c2 (ys.map fun x => Value.int .u32 (x : Nat)) (by simp [hr.len])
      (by
        intro j u hj
        have hjl : j < ys.length := by
          rcases Nat.lt_or_ge j ys.length with h | h
          · exact h
          · rw [List.getElem?_eq_none (by simpa using h)] at hj; cases hj
        rw [List.getElem?_map, List.getElem?_eq_getElem hjl] at hj
        simp only [Option.map_some, Option.some.injEq] at hj
        subst hj
        have := hc j (by rw [← hr.len]; exact hjl)
        rw [lim_get hjl] at this
        rwa [show ((⟨b, off, none⟩ : Addr).add j) = ⟨b, off + j, none⟩ from by unfold Addr.add; split <;> simp_all])
      (by intro u hu; obtain ⟨x, _, rfl⟩ := List.mem_map.1 hu; rfl)
      (by unfold maxLen; omega) (by omega) hbase
    obtain ⟨A', c', rfl, h4, h5⟩ := fin v' w' h2 h3
    exact ⟨A', c', w', h1, h4, h5⟩

theorem wpList_app {ops : Array Oper} {rest : List Oper} {o : Oper} {a : Act} {Q : Exit → Act → World → Prop} {w : World} (hgd : o.guard = none) (s x : Operand) (t t2 : TypeId)
    (ho : o.op = .call { callee := .builtin .append, args := #[s, x], argTypes := #[t, t2] }) (ht : t = 22 ∨ t = 23) (ht2 : t2 = 22 ∨ t2 = 23)
    (base : Nat) (A : Option Addr) (n c : Nat) (xs : List Nat) (hs : a.eval s = .slice A n c) (hown : Own w base A n c xs)
    (A2 : Option Addr) (m c2 : Nat) (ys : List Nat) (hx : a.eval x = .slice A2 m c2) (hr : Rd w A2 m c2 ys) (hb : n + m ≤ 4194304) (hbase : base ≤ w.heap.size)
    (h : ∀ A' c' w', Own w' base A' (n + m) c' (xs ++ ys) → Below base w w' → wpList Tryz.prog ops Q rest (a.put o.dst (.slice A' (n + m) c')) w') : wpList Tryz.prog ops Q (o :: rest) a w := by
  refine wpList_plain hgd fun K hK => ?_
  obtain ⟨A', c', w', hrun, h2, h3⟩ := run_app w base t t2 o.type ht ht2 hown hr hb hbase
  unfold Oper.wp execOp
  simp only [ho, resolve, invoke, builtin, Sem.run_bind, Sem.run_pure, Result.andThen_ok, List.map_toArray, List.map_cons, List.map_nil, hs, hx, hrun]
  exact hK _ _ (h A' c' w' h2 h3)

/-! ### make -/
def zs (n : Nat) : List Nat := List.replicate n 0
theorem zs_len (n : Nat) : (zs n).length = n := List.length_replicate
theorem zs_sm (n : Nat) : Sm (zs n) := Sm.replicate n
theorem zs_lim (n k : Nat) : lim (zs n) k = 0 := lim_replicate n k
theorem zs_pv (n k : Nat) : pv (zs n) k = 0 := pv_replicate n k
theorem zs_val (n : Nat) : val (zs n) = 0 := val_replicate n
set_option maxRecDepth 100000 in
theorem run_mk (t : TypeId) (ht : t = 22 ∨ t = 23) (n : Nat) (k : Int) (hk : k = n) (hn : n ≤ 4194304) (w : World) :
    (Instr.makeSlice t (.int .i64 k) (.int .i64 k)).run Tryz.prog w = .ok (.slice (some ⟨w.heap.size, 0, none⟩) n n) (w.alloc (.cells (arr (zs n)) 57)) := by
  subst hk
  obtain ⟨i0, hi, hz0, hz1, hz2⟩ := info_parts info42
  have hr := run_make (P := Tryz.prog) w t 57 i0 (.int .u32 0) (nat_slice ht) hi hz0 .i64 .i64 n n (by omega) (by omega) (by rw [hz2]; omega) (by omega)
  simp only [Int.toNat_natCast] at hr
  rw [hr]
  congr 3
  rw [hz1, Nat.mul_one]
  unfold arr zs madeCells
  apply Array.ext
  · simp
  · intro i h1 h2
    simp
    show (#[Value.int .u32 0] : Array Value)[i % 1]! = _
    rw [Nat.mod_one]
    rfl
end Go.Proofs.YtnddhohjfjlaiaaGreatDoor

/-
  The limbs and the trimming.
-/
namespace Go.Proofs.YtnddhohjfjlaiaaGreatDoor
open Go.RowKit
set_option linter.unusedVariables false
set_option linter.unusedSimpArgs false

theorem ret_int {k : IntKind} {a b : Int} (h : a = b) : Ending.returned (.int k a) = .returned (.int k b) := by rw [h]

theorem limb_calls (A : Option Addr) (n c : Nat) (xs : List Nat) (w : World) (i : Nat) (h : Rd w A n c xs) :
    Calls Tryz.prog 100 #[.slice A n c, .int .i64 (i : Int)] w fun e w' => e = .returned (.int .u64 (lim xs i : Nat)) ∧ w = w' := by
  have hl := h.sm.lim i
  by_cases hk : i < n
  · obtain ⟨b, off, rfl, hb, hc⟩ := h.get hk
    clear h
    go_enter Tryz.func100, Tryz.ntmps100
    go_wp2
    go_ret
    exact ⟨rfl, rfl⟩
  · have hz : lim xs i = 0 := lim_of_ge (by have := h.len; omega)
    rw [hz]
    clear h hz hl
    go_enter Tryz.func100, Tryz.ntmps100
    go_wp2
    go_ret
    exact ⟨rfl, rfl⟩
theorem rlimb_calls (A : Option Addr) (n c : Nat) (xs : List Nat) (w : World) (i : Nat) (h : Rd w A n c xs) :
    Calls Tryz.prog 81 #[.slice A n c, .int .i64 (i : Int)] w fun e w' => e = .returned (.int .u32 (lim xs i : Nat)) ∧ w = w' := by
  have hl := h.sm.lim i
  by_cases hk : i < n
  · obtain ⟨b, off, rfl, hb, hc⟩ := h.get hk
    clear h
    go_enter Tryz.func81, Tryz.ntmps81
    go_wp2
    go_ret
    exact ⟨rfl, rfl⟩
  · have hz : lim xs i = 0 := lim_of_ge (by have := h.len; omega)
    rw [hz]
    clear h hz hl
    go_enter Tryz.func81, Tryz.ntmps81
    go_wp2
    go_ret
    exact ⟨rfl, rfl⟩

theorem trim_calls (A : Option Addr) (n c : Nat) (xs : List Nat) (w : World) (h : Rd w A n c xs) (hn : n ≤ 4194304) :
    Calls Tryz.prog 53 #[.slice A n c] w fun e w' => ∃ A' c', e = .returned (.slice A' (tlen xs) c') ∧ w = w' ∧ Rd w A' (tlen xs) c' (xs.take (tlen xs)) ∧ (0 < tlen xs → A' = A) := by
  have hcap := h.cap
  have hlen := h.len
  have HL := hide hlen
  clear hlen
  go_enter Tryz.func53, Tryz.ntmps53
  go_wp2
  go_loop [3] (fun k => ∃ j : Nat, j ≤ n ∧ k = .int .i64 j ∧ Hid (∀ i, j ≤ i → lim xs i = 0)) (fun k => (intOf k).toNat)
  case atStart => exact ⟨n, Nat.le_refl _, rfl, fun i hi => lim_of_ge (by have := HL.out; omega)⟩
  case round =>
    obtain ⟨j, hj, rfl, hz⟩ := hrel
    by_cases h0 : j = 0
    · have hd : decide ((0 : Int) < (j : Int)) = false := by simp; omega
      have hd1 : ((j : Int) == 0) = true := by simp; omega
      have hd2 : ¬ (0 : Int) < (j : Int) := by omega
      have H0 := hide h0
      clear h0
      go_wp2
      go_ret
      have h0 := H0.out
      subst h0
      have ht : tlen xs = 0 := tlen_of (fun k hk => hz.out k hk) (.inl rfl)
      exact ⟨none, 0, by rw [ht]; rfl, rfl, by rw [ht]; exact Rd.empty _ _ _, fun h1 => absurd h1 (by omega)⟩
    · have hl := h.sm.lim (j - 1)
      obtain ⟨b, off, rfl, hb, hc⟩ := h.get (k := j - 1) (by omega)
      have hd : (0 : Int) < j := by omega
      go_wp2
      · have ht : ((lim xs (j - 1) : Int) == 0) = true := by assumption
        go_round
        case rel =>
          refine ⟨j - 1, by omega, by go_num, fun i hi => ?_⟩
          by_cases he : i = j - 1
          · subst he; have := WalkArith.int_eq ht; omega
          · exact hz.out i (by omega)
        case measure => simp [intOf]; omega
      · have ht : ((lim xs (j - 1) : Int) == 0) = false := by assumption
        have hj0 : tlen xs = j := tlen_of (fun k hk => hz.out k hk) (.inr (by have := WalkArith.int_ne ht; omega))
        go_ret
        exact ⟨_, c, by rw [hj0]; rfl, rfl, by rw [hj0]; exact h.take hj, fun _ => rfl⟩
end Go.Proofs.YtnddhohjfjlaiaaGreatDoor

/-
  The copies: copied, Make, and the specification's Make.
-/
namespace Go.Proofs.YtnddhohjfjlaiaaGreatDoor
open Go.RowKit
set_option linter.unusedVariables false
set_option linter.unusedSimpArgs false

/-- What a function hands back that makes a slice of limbs: the slice reads as xs, and what was there is as it was. -/
def Gives (w : World) (xs : List Nat) (e : Ending) (w' : World) : Prop := ∃ A c, e = .returned (.slice A xs.length c) ∧ Rd w' A xs.length c xs ∧ Below w.heap.size w w'

theorem make_calls (A : Option Addr) (n c : Nat) (xs : List Nat) (w : World) (h : Rd w A n c xs) (hn : n ≤ 1048576) :
    Calls Tryz.prog 34 #[.slice A n c] w (Gives w (dg (val xs))) := by
  have ht := tlen_le xs
  have hl := h.len
  have hsm := h.sm
  have HL := hide (len_dg_val hsm)
  have HD := hide (dg_val hsm)
  have htn : tlen xs ≤ 1048576 := by omega
  have hn4 : n ≤ 4194304 := by omega
  clear hl ht
  go_enter Tryz.func34, Tryz.ntmps34
  go_wp2_with (first
    | (go_at_call 53; refine (trim_calls A n c xs _ h hn4).mono ?_; rintro e w' ⟨A1, c1, rfl, rfl, hr1, _⟩)
    | (at_builtin; refine wpList_app rfl (.const (.slice none 0 0)) (.tmp 4) 23 23 rfl (.inr rfl) (.inr rfl) w.heap.size none 0 0 [] rfl (Own.nil _ _) A1 (tlen xs) c1 _ rfl hr1 (by omega) (by simp) ?_; intro A' c' w' hown hb))
  go_ret
  refine ⟨A', c', by rw [HL.out]; simp, ?_, hb⟩
  rw [HL.out, HD.out]
  simpa using hown.rd (by simpa using hsm.take _)

theorem rmake_calls (A : Option Addr) (n c : Nat) (xs : List Nat) (w : World) (h : Rd w A n c xs) (hn : n ≤ 4194304) :
    Calls Tryz.prog 82 #[.slice A n c] w (Gives w (dg (val xs))) := by
  have hcap := h.cap
  have hlen := h.len
  have HL := hide hlen
  clear hlen
  have h2 : Rd (w.alloc (.cells #[] 57)) A n c xs := h.below ((Below.refl _ _).alloc (Nat.le_refl _) _)
  go_enter Tryz.func82, Tryz.ntmps82
  go_wp2
  go_loop [3] (fun k => ∃ j : Nat, j ≤ n ∧ k = .int .i64 j ∧ Hid (∀ i, j ≤ i → lim xs i = 0)) (fun k => (intOf k).toNat)
  case atStart => exact ⟨n, Nat.le_refl _, rfl, fun i hi => lim_of_ge (by have := HL.out; omega)⟩
  case round =>
    obtain ⟨j, hj, rfl, hz⟩ := hrel
    have fin : tlen xs = j → ∀ A' c' w', Own w' w.heap.size A' (0 + j) c' ([] ++ xs.take j) → Below w.heap.size (w.alloc (.cells #[] 57)) w' → Gives w (dg (val xs)) (.returned (.slice A' (0 + j) c')) w' := by
      intro ht A' c' w' hown hb
      have e1 := dg_val h.sm
      have e2 := len_dg_val h.sm
      rw [ht] at e1 e2
      refine ⟨A', c', by rw [e2]; simp, ?_, ((Below.refl _ _).alloc (Nat.le_refl _) _).trans hb⟩
      rw [e2, e1]
      simpa using hown.rd (by simpa using h.sm.take _)
    have FIN := hide fin
    clear fin
    by_cases h0 : j = 0
    · have hd : decide ((0 : Int) < (j : Int)) = false := by simp; omega
      have hd2 : ¬ (0 : Int) < (j : Int) := by omega
      have H0 := hide h0
      clear h0
      have h3 := h2.take hj
      go_wp2_with (at_builtin; refine wpList_app rfl (.tmp 18) (.tmp 21) 23 22 rfl (.inr rfl) (.inl rfl) w.heap.size _ 0 0 [] rfl (Own.empty w _ (Nat.le_refl _)) _ j c _ rfl h3 (by omega) (by simp) ?_; intro A' c' w' hown hb)
      go_ret
      have h0 := H0.out
      subst h0
      exact FIN.out (tlen_of (fun k hk => hz.out k hk) (.inl rfl)) A' c' w' hown hb
    · have hl := h.sm.lim (j - 1)
      obtain ⟨b, off, rfl, hb, hc⟩ := h.get (k := j - 1) (by omega)
      have hd : (0 : Int) < j := by omega
      have h3 := h2.take hj
      go_wp2_with (at_builtin; refine wpList_app rfl (.tmp 18) (.tmp 21) 23 22 rfl (.inr rfl) (.inl rfl) w.heap.size _ 0 0 [] rfl (Own.empty w _ (Nat.le_refl _)) _ j c _ rfl h3 (by omega) (by simp) ?_; intro A' c' w' hown hb')
      · have ht : ((lim xs (j - 1) : Int) == 0) = true := by assumption
        go_round
        case rel =>
          refine ⟨j - 1, by omega, by go_num, fun i hi => ?_⟩
          by_cases he : i = j - 1
          · subst he; have := WalkArith.int_eq ht; omega
          · exact hz.out i (by omega)
        case measure => simp [intOf]; omega
      · have ht : ((lim xs (j - 1) : Int) == 0) = false := by assumption
        go_ret
        have := FIN.out (tlen_of (fun k hk => hz.out k hk) (.inr (by have := WalkArith.int_ne ht; omega))) A' c' w' hown hb'
        simpa using this
end Go.Proofs.YtnddhohjfjlaiaaGreatDoor
