/-
  Decimal digits, the texts of numbers, and what a text is parsed as: mathematics.
-/
import Derived.WalkKit
namespace Go.Proofs.YtjpchbcenbjibaaGreatDoor
open Go.RowKit
set_option linter.unusedVariables false
set_option linter.unusedSimpArgs false

/-- A byte is a digit. -/
def isd (c : UInt8) : Bool := 48 ≤ c.toNat && c.toNat ≤ 57
/-- The number of a list of digits. -/
def dval (l : List UInt8) : Nat := l.foldl (fun a c => a * 10 + (c.toNat - 48)) 0
/-- The digits of a number, none for 0. -/
def dtF : Nat → Nat → List UInt8
  | 0, _ => []
  | f + 1, n => if n = 0 then [] else dtF f (n / 10) ++ [UInt8.ofNat (48 + n % 10)]
def dt (n : Nat) : List UInt8 := dtF n n
/-- The text of a natural number. -/
def dtx (n : Nat) : List UInt8 := if n = 0 then [48] else dt n
theorem dtF_of {f g n : Nat} (hf : n ≤ f) (hg : n ≤ g) : dtF f n = dtF g n := by
  induction f generalizing g n with
  | zero =>
    obtain rfl : n = 0 := by omega
    cases g <;> rfl
  | succ f ih =>
    rcases g with _ | g
    · obtain rfl : n = 0 := by omega
      rfl
    · unfold dtF
      split
      · rfl
      · rw [ih (g := g) (by omega) (by omega)]
theorem dt_zero : dt 0 = [] := rfl
theorem dt_pos {n : Nat} (h : n ≠ 0) : dt n = dt (n / 10) ++ [UInt8.ofNat (48 + n % 10)] := by
  obtain ⟨m, rfl⟩ : ∃ m, n = m + 1 := ⟨n - 1, by omega⟩
  show dtF (m + 1) (m + 1) = dtF _ _ ++ _
  rw [dtF, if_neg (by omega), dtF_of (f := m) (g := (m + 1) / 10) (by omega) (Nat.le_refl _)]
theorem dval_snoc (l : List UInt8) (c : UInt8) : dval (l ++ [c]) = dval l * 10 + (c.toNat - 48) := by simp [dval]
theorem dval_from (l : List UInt8) (a : Nat) : l.foldl (fun a c => a * 10 + (c.toNat - 48)) a = a * 10 ^ l.length + dval l := by
  induction l generalizing a with
  | nil => simp [dval]
  | cons c l ih =>
    rw [dval, List.foldl_cons, List.foldl_cons, ih, ih (0 * 10 + _), List.length_cons, Nat.pow_succ, Nat.zero_mul, Nat.zero_add, Nat.add_mul]
    rw [Nat.mul_comm (10 ^ l.length) 10, ← Nat.mul_assoc, Nat.add_assoc]
theorem dval_append (l m : List UInt8) : dval (l ++ m) = dval l * 10 ^ m.length + dval m := by
  rw [dval, List.foldl_append, dval_from]; rfl
theorem dval_cons (c : UInt8) (l : List UInt8) : dval (c :: l) = (c.toNat - 48) * 10 ^ l.length + dval l := by
  rw [dval, List.foldl_cons, dval_from]; simp
theorem digit_nat {r : Nat} (h : r < 10) : (UInt8.ofNat (48 + r)).toNat = 48 + r := by
  rw [UInt8.toNat_ofNat']; omega
theorem digit_isd {r : Nat} (h : r < 10) : isd (UInt8.ofNat (48 + r)) = true := by
  unfold isd
  rw [digit_nat h]
  simp
  omega
theorem dval_dt (n : Nat) : dval (dt n) = n := by
  induction n using Nat.strongRecOn with
  | _ n ih =>
    by_cases h : n = 0
    · subst h; rfl
    · rw [dt_pos h, dval_snoc, ih _ (by omega), digit_nat (by omega)]
      omega
theorem dt_isd (n : Nat) : ∀ c ∈ dt n, isd c = true := by
  induction n using Nat.strongRecOn with
  | _ n ih =>
    intro c hc
    by_cases h : n = 0
    · subst h; cases hc
    · rw [dt_pos h, List.mem_append] at hc
      rcases hc with hc | hc
      · exact ih _ (by omega) c hc
      · rw [List.mem_singleton] at hc
        subst hc
        exact digit_isd (by omega)
theorem dt_len {n k : Nat} (h : n < 10 ^ k) : (dt n).length ≤ k := by
  induction k generalizing n with
  | zero =>
    obtain rfl : n = 0 := by simpa using h
    exact Nat.le_refl _
  | succ k ih =>
    by_cases h0 : n = 0
    · subst h0; exact Nat.zero_le _
    · rw [dt_pos h0, List.length_append]
      have : n / 10 < 10 ^ k := by rw [Nat.pow_succ] at h; omega
      have := ih this
      simp
      omega
theorem dt_nil {n : Nat} : dt n = [] ↔ n = 0 := by
  constructor
  · intro h
    have := dval_dt n
    rw [h] at this
    exact this.symm
  · rintro rfl; rfl
theorem dval_dtx (n : Nat) : dval (dtx n) = n := by
  unfold dtx
  split
  · rename_i h; rw [h]; rfl
  · exact dval_dt n
theorem dtx_isd (n : Nat) : ∀ c ∈ dtx n, isd c = true := by
  unfold dtx
  split
  · intro c hc
    rw [List.mem_singleton] at hc
    subst hc
    rfl
  · exact dt_isd n
theorem dtx_pos (n : Nat) : 0 < (dtx n).length := by
  unfold dtx
  split
  · exact Nat.zero_lt_one
  · rename_i h
    rcases Nat.eq_zero_or_pos (dt n).length with e | e
    · exact absurd (dt_nil.1 (List.length_eq_zero_iff.1 e)) h
    · exact e
theorem dtx_len {n k : Nat} (h : n < 10 ^ k) (hk : 1 ≤ k) : (dtx n).length ≤ k := by
  unfold dtx
  split
  · exact hk
  · exact dt_len h
theorem dval_lt {l : List UInt8} (h : ∀ c ∈ l, isd c = true) : dval l < 10 ^ l.length := by
  induction l with
  | nil => decide
  | cons c l ih =>
    have h1 := h c List.mem_cons_self
    have h2 := ih fun d hd => h d (List.mem_cons_of_mem _ hd)
    unfold isd at h1
    simp only [Bool.and_eq_true, decide_eq_true_eq] at h1
    rw [dval_cons, List.length_cons, Nat.pow_succ]
    have h3 : (c.toNat - 48) * 10 ^ l.length ≤ 9 * 10 ^ l.length := Nat.mul_le_mul_right _ (by omega)
    omega
theorem dval_zeros (k : Nat) (l : List UInt8) : dval (List.replicate k 48 ++ l) = dval l := by
  induction k with
  | zero => rfl
  | succ k ih => rw [List.replicate_succ, List.cons_append, dval_cons, ih]; simp
/-- The number of digits that a text begins with. -/
def prun (l : List UInt8) : Nat := (l.takeWhile isd).length
theorem prun_le (l : List UInt8) : prun l ≤ l.length := by
  unfold prun
  have := (List.takeWhile_sublist (l := l) isd).length_le
  exact this
theorem prun_nil : prun [] = 0 := rfl
theorem prun_digit {c : UInt8} {l : List UInt8} (h : isd c = true) : prun (c :: l) = prun l + 1 := by simp [prun, List.takeWhile_cons, h]
theorem prun_other {c : UInt8} {l : List UInt8} (h : isd c = false) : prun (c :: l) = 0 := by simp [prun, List.takeWhile_cons, h]
theorem prun_append {l m : List UInt8} (h : ∀ c ∈ l, isd c = true) (hm : prun m = 0) : prun (l ++ m) = l.length := by
  induction l with
  | nil => exact hm
  | cons c l ih => rw [List.cons_append, prun_digit (h c List.mem_cons_self), ih fun d hd => h d (List.mem_cons_of_mem _ hd), List.length_cons]
theorem prun_all {l : List UInt8} (h : ∀ c ∈ l, isd c = true) : prun l = l.length := by
  have := prun_append (m := []) h rfl
  rwa [List.append_nil] at this
/-- Digit number i of the run is a digit; the byte behind the run is none. -/
theorem prun_at {l : List UInt8} {i : Nat} (h : i < prun l) : ∃ c, l[i]? = some c ∧ isd c = true := by
  induction l generalizing i with
  | nil => exact absurd h (by simp [prun])
  | cons c l ih =>
    by_cases hc : isd c = true
    · rw [prun_digit hc] at h
      rcases i with _ | i
      · exact ⟨c, rfl, hc⟩
      · exact ih (i := i) (by omega)
    · rw [prun_other (by simpa using hc)] at h
      omega
theorem prun_end {l : List UInt8} {c : UInt8} (h : l[prun l]? = some c) : isd c = false := by
  induction l with
  | nil => cases h
  | cons d l ih =>
    by_cases hc : isd d = true
    · rw [prun_digit hc] at h
      exact ih h
    · rw [prun_other (by simpa using hc)] at h
      simp at h
      subst h
      simpa using hc
def sgnq (neg : Bool) (q : Rat) : Rat := if neg then -q else q
/-- What a text is parsed as: the number, the offset, the error. -/
def pparse (l : List UInt8) : Rat × Nat × Nat :=
  let a := if l.head? = some 45 then 1 else 0
  let k := prun (l.drop a)
  if 4000 < k then (0, a + 4000, 8)
  else if k = 0 then (0, a, 4)
  else if a + k = l.length then (sgnq (a == 1) (dval ((l.drop a).take k) : Nat), 0, 0)
  else if l[a + k]? = some 47 ∨ l[a + k]? = some 46 then
    let j := prun (l.drop (a + k + 1))
    if 4000 < k + j then (0, a + k + 1 + (4000 - k), 8)
    else if j = 0 then (0, a + k + 1, 4)
    else if a + k + 1 + j ≠ l.length then (0, a + k + 1 + j, 4)
    else if l[a + k]? = some 47 then
      if dval ((l.drop (a + k + 1)).take j) = 0 then (0, a + k + 1, 3)
      else (sgnq (a == 1) ((dval ((l.drop a).take k) : Nat) / (dval ((l.drop (a + k + 1)).take j) : Nat)), 0, 0)
    else (sgnq (a == 1) ((dval ((l.drop a).take k) * 10 ^ j + dval ((l.drop (a + k + 1)).take j) : Nat) / (10 ^ j : Nat)), 0, 0)
  else (0, a + k, 4)
/-- The text of a number. -/
def txt (q : Rat) : List UInt8 := (if q.num < 0 then [45] else []) ++ (dtx q.num.natAbs ++ if q.den = 1 then [] else 47 :: dtx q.den)
/-- A number rounded to p decimal places, times 10^p, without its sign. -/
def fixn (q : Rat) (p : Nat) : Nat := (q.num.natAbs * 10 ^ p * 2 + q.den) / (q.den * 2)
def padz (p : Nat) (l : List UInt8) : List UInt8 := List.replicate (p + 1 - l.length) 48 ++ l
/-- The text with p decimal places. -/
def ffix (q : Rat) (p : Nat) : List UInt8 :=
  let s := padz p (dtx (fixn q p))
  (if q.num < 0 ∧ fixn q p ≠ 0 then [45] else []) ++ if p = 0 then s else s.take (s.length - p) ++ 46 :: s.drop (s.length - p)
theorem isd_45 : isd 45 = false := rfl
theorem isd_46 : isd 46 = false := rfl
theorem isd_47 : isd 47 = false := rfl
theorem head_digit {l : List UInt8} (h : ∀ c ∈ l, isd c = true) (h0 : 0 < l.length) (m : List UInt8) : (l ++ m).head? ≠ some 45 := by
  rcases l with _ | ⟨c, l⟩
  · cases h0
  · intro e
    have h1 := h c List.mem_cons_self
    simp at e
    subst e
    cases h1
theorem sign_cut (neg : Bool) (l : List UInt8) (h : l.head? ≠ some 45) :
    (if ((if neg = true then [45] else []) ++ l).head? = some (45 : UInt8) then 1 else 0) = (if neg then 1 else 0) ∧ ((if neg = true then [45] else []) ++ l).drop (if neg then 1 else 0) = l := by
  cases neg
  · simp [h]
  · simp
/-- A text of digits alone. -/
theorem pparse_int (neg : Bool) (l : List UInt8) (h : ∀ c ∈ l, isd c = true) (h0 : 0 < l.length) (h1 : l.length ≤ 4000) : pparse ((if neg = true then [45] else []) ++ l) = (sgnq neg (dval l : Nat), 0, 0) := by
  have hh : l.head? ≠ some 45 := by have := head_digit h h0 []; rwa [List.append_nil] at this
  obtain ⟨s1, s2⟩ := sign_cut neg l hh
  unfold pparse
  simp only [s1, s2, prun_all h]
  rw [if_neg (by omega), if_neg (by omega), if_pos (by cases neg <;> simp; omega), List.take_of_length_le (Nat.le_refl _)]
  cases neg <;> rfl
theorem at_sep (neg : Bool) (l m : List UInt8) (c : UInt8) : ((if neg = true then [45] else []) ++ (l ++ c :: m))[(if neg then 1 else 0) + l.length]? = some c ∧
    ((if neg = true then [45] else []) ++ (l ++ c :: m)).drop ((if neg then 1 else 0) + l.length + 1) = m ∧ ((if neg = true then [45] else []) ++ (l ++ c :: m)).length = (if neg then 1 else 0) + l.length + 1 + m.length := by
  cases neg
  · simp; omega
  · refine ⟨?_, ?_, ?_⟩
    · simp [Nat.add_comm 1]
    · simp only [if_true]
      rw [show 1 + l.length + 1 = l.length + 1 + 1 by omega, List.singleton_append, List.drop_succ_cons]
      simp
    · simp; omega
theorem pparse_sep (neg : Bool) (l m : List UInt8) (c : UInt8) (hl : ∀ c ∈ l, isd c = true) (hm : ∀ c ∈ m, isd c = true) (h0 : 0 < l.length) (h1 : 0 < m.length) (h2 : l.length + m.length ≤ 4000) (hc : c = 47 ∨ c = 46) (hd : c = 47 → dval m ≠ 0) :
    pparse ((if neg = true then [45] else []) ++ (l ++ c :: m)) = (sgnq neg (if c = 47 then (dval l : Nat) / (dval m : Nat) else (dval l * 10 ^ m.length + dval m : Nat) / (10 ^ m.length : Nat)), 0, 0) := by
  have hcd : isd c = false := by rcases hc with rfl | rfl <;> rfl
  obtain ⟨s1, s2⟩ := sign_cut neg (l ++ c :: m) (head_digit hl h0 _)
  obtain ⟨a1, a2, a3⟩ := at_sep neg l m c
  unfold pparse
  simp only [s1, s2, prun_append hl (prun_other (l := m) hcd), a1, a2, a3, prun_all hm]
  rw [if_neg (by omega), if_neg (by omega), if_neg (by omega), if_pos (by rcases hc with rfl | rfl <;> simp), if_neg (by omega), if_neg (by omega), if_neg (by omega)]
  rw [List.take_of_length_le (Nat.le_refl m.length), List.take_left' rfl]
  have hs : ((if neg = true then 1 else 0) == 1) = neg := by cases neg <;> rfl
  rw [hs]
  rcases hc with rfl | rfl
  · rw [if_pos rfl, if_neg (hd rfl), if_pos rfl]
  · rw [if_neg (by decide), if_neg (by decide)]
theorem sgnq_num (q : Rat) : sgnq (decide (q.num < 0)) ((q.num.natAbs : Nat) / (q.den : Nat) : Rat) = q := by
  have h := Rat.mkRat_self q
  rw [Rat.mkRat_eq_div] at h
  unfold sgnq
  by_cases h0 : q.num < 0
  · rw [if_pos (by simpa using h0)]
    have e : ((q.num.natAbs : Nat) : Rat) = -((q.num : Int) : Rat) := by
      rw [← Rat.intCast_natCast, show ((q.num.natAbs : Nat) : Int) = -q.num by omega, Rat.intCast_neg]
    rw [e]
    grind
  · rw [if_neg (by simpa using h0)]
    have e : ((q.num.natAbs : Nat) : Rat) = ((q.num : Int) : Rat) := by
      rw [← Rat.intCast_natCast, show ((q.num.natAbs : Nat) : Int) = q.num by omega]
    rw [e]
    exact h
/-- The text of a number is parsed as the number. -/
theorem pparse_txt (q : Rat) (h : (dtx q.num.natAbs).length + (dtx q.den).length ≤ 4000) : pparse (txt q) = (q, 0, 0) := by
  have hq := sgnq_num q
  unfold txt
  rw [show (if q.num < 0 then [45] else ([] : List UInt8)) = (if decide (q.num < 0) = true then [45] else []) by by_cases h0 : q.num < 0 <;> simp [h0]]
  by_cases h1 : q.den = 1
  · rw [if_pos h1, List.append_nil, pparse_int _ _ (dtx_isd _) (dtx_pos _) (by omega), dval_dtx]
    rw [h1] at hq
    rw [show ((1 : Nat) : Rat) = 1 from rfl, Rat.div_def, show (1 : Rat)⁻¹ = 1 by decide +kernel, Rat.mul_one] at hq
    rw [hq]
  · rw [if_neg h1, pparse_sep _ _ _ 47 (dtx_isd _) (dtx_isd _) (dtx_pos _) (dtx_pos _) h (.inl rfl) (fun _ => by rw [dval_dtx]; exact q.den_nz), if_pos rfl, dval_dtx, dval_dtx, hq]
theorem padz_isd (p n : Nat) : ∀ c ∈ padz p (dtx n), isd c = true := by
  intro c hc
  unfold padz at hc
  rw [List.mem_append] at hc
  rcases hc with hc | hc
  · rw [List.mem_replicate] at hc
    rw [hc.2]; rfl
  · exact dtx_isd n c hc
theorem padz_len (p : Nat) (l : List UInt8) : p + 1 ≤ (padz p l).length ∧ (padz p l).length ≤ (p + 1) + l.length := by
  unfold padz
  rw [List.length_append, List.length_replicate]
  omega
theorem padz_max {p k : Nat} {l : List UInt8} (h : l.length ≤ k) (hp : p + 1 ≤ k) : (padz p l).length ≤ k := by
  unfold padz
  rw [List.length_append, List.length_replicate]
  omega
theorem dval_padz (p n : Nat) : dval (padz p (dtx n)) = n := by
  unfold padz
  rw [dval_zeros, dval_dtx]
/-- What the text with p decimal places is parsed as. -/
def fixq (q : Rat) (p : Nat) : Rat := sgnq (decide (q.num < 0 ∧ fixn q p ≠ 0)) ((fixn q p : Nat) / (10 ^ p : Nat))
theorem pparse_ffix (q : Rat) (p : Nat) (hl : (dtx (fixn q p)).length ≤ 4000) (hp : p + 1 ≤ 4000) : pparse (ffix q p) = (fixq q p, 0, 0) := by
  have hs := padz_isd p (fixn q p)
  have hv := dval_padz p (fixn q p)
  have hm := padz_max hl hp
  have hlen := (padz_len p (dtx (fixn q p))).1
  unfold ffix fixq
  generalize padz p (dtx (fixn q p)) = s at *
  have e : (if q.num < 0 ∧ fixn q p ≠ 0 then [45] else ([] : List UInt8)) = (if decide (q.num < 0 ∧ fixn q p ≠ 0) = true then [45] else []) := by by_cases h0 : q.num < 0 ∧ fixn q p ≠ 0 <;> simp [h0]
  simp only [e]
  by_cases h0 : p = 0
  · subst h0
    rw [if_pos rfl, pparse_int _ _ hs (by omega) hm, hv]
    rw [show ((10 ^ 0 : Nat) : Rat) = 1 from rfl, Rat.div_def, show (1 : Rat)⁻¹ = 1 by decide +kernel, Rat.mul_one]
  · rw [if_neg h0]
    have d1 : (s.take (s.length - p)).length = s.length - p := by rw [List.length_take]; omega
    have d2 : (s.drop (s.length - p)).length = p := by rw [List.length_drop]; omega
    rw [pparse_sep _ _ _ 46 (fun c hc => hs c (List.mem_of_mem_take hc)) (fun c hc => hs c (List.mem_of_mem_drop hc)) (by omega) (by omega) (by omega) (.inr rfl) (fun e => absurd e (by decide)), if_neg (by decide), d2]
    have hd := dval_append (s.take (s.length - p)) (s.drop (s.length - p))
    rw [List.take_append_drop, d2, hv] at hd
    rw [← hd]
theorem fixn_bd (q : Rat) (p : Nat) : fixn q p * (q.den * 2) ≤ q.num.natAbs * 10 ^ p * 2 + q.den ∧ q.num.natAbs * 10 ^ p * 2 + q.den < (fixn q p + 1) * (q.den * 2) := by
  have h0 : 0 < q.den * 2 := by have := q.den_nz; omega
  refine ⟨Nat.div_mul_le_self _ _, ?_⟩
  have := Nat.lt_div_mul_add (a := q.num.natAbs * 10 ^ p * 2 + q.den) h0
  rw [Nat.add_mul, Nat.one_mul]
  exact this
theorem abs_num (q : Rat) : ((q.num.natAbs : Nat) : Rat) = if q.num < 0 then -(q * (q.den : Rat)) else q * (q.den : Rat) := by
  have h := sgnq_num q
  have hd : ((q.den : Nat) : Rat) ≠ 0 := by simpa using q.den_nz
  unfold sgnq at h
  by_cases h0 : q.num < 0
  · rw [if_pos (by simpa using h0)] at h
    rw [if_pos h0]
    grind
  · rw [if_neg (by simpa using h0)] at h
    rw [if_neg h0]
    grind
theorem round_bd (q : Rat) (p : Nat) : (q - fixq q p) * (((10 ^ p : Nat) : Rat) * 2) ≤ 1 ∧ -1 ≤ (q - fixq q p) * (((10 ^ p : Nat) : Rat) * 2) := by
  obtain ⟨b1, b2⟩ := fixn_bd q p
  have hd : (0 : Rat) < ((q.den : Nat) : Rat) := by
    have := q.den_nz
    have h1 : (0 : Rat) < ((q.den : Nat) : Rat) ↔ 0 < q.den := by
      rw [show (0 : Rat) = ((0 : Nat) : Rat) from rfl, Rat.natCast_lt_natCast]
    exact h1.2 (by omega)
  have ht : (0 : Rat) < ((10 ^ p : Nat) : Rat) := by
    rw [show (0 : Rat) = ((0 : Nat) : Rat) from rfl, Rat.natCast_lt_natCast]
    exact Nat.pow_pos (by decide)
  have c1 : ((fixn q p * (q.den * 2) : Nat) : Rat) ≤ ((q.num.natAbs * 10 ^ p * 2 + q.den : Nat) : Rat) := Rat.natCast_le_natCast.2 b1
  have c2 : ((q.num.natAbs * 10 ^ p * 2 + q.den : Nat) : Rat) < (((fixn q p + 1) * (q.den * 2) : Nat) : Rat) := Rat.natCast_lt_natCast.2 b2
  have ha := abs_num q
  simp only [Rat.natCast_mul, Rat.natCast_add] at c1 c2
  rw [show ((2 : Nat) : Rat) = 2 from rfl] at c1 c2
  rw [show ((1 : Nat) : Rat) = 1 from rfl] at c2
  rw [ha] at c1 c2
  have hf : (0 : Rat) ≤ ((fixn q p : Nat) : Rat) := Rat.natCast_nonneg
  have key : ∀ (F : Rat), q * (((10 ^ p : Nat) : Rat) * 2) - F * 2 ≤ 1 → -1 ≤ q * (((10 ^ p : Nat) : Rat) * 2) - F * 2 → (q - F / ((10 ^ p : Nat) : Rat)) * (((10 ^ p : Nat) : Rat) * 2) ≤ 1 ∧ -1 ≤ (q - F / ((10 ^ p : Nat) : Rat)) * (((10 ^ p : Nat) : Rat) * 2) := by
    intro F h1 h2
    have e : (q - F / ((10 ^ p : Nat) : Rat)) * (((10 ^ p : Nat) : Rat) * 2) = q * (((10 ^ p : Nat) : Rat) * 2) - F * 2 := by grind
    rw [e]
    exact ⟨h1, h2⟩
  have dv : ∀ (a b : Rat), a * ((q.den : Nat) : Rat) ≤ b * ((q.den : Nat) : Rat) → a ≤ b := fun a b h => Rat.le_of_mul_le_mul_right h hd
  unfold fixq
  by_cases h0 : q.num < 0
  · rw [if_pos h0] at c1 c2
    by_cases hF : fixn q p ≠ 0
    · rw [show decide (q.num < 0 ∧ fixn q p ≠ 0) = true by simp [h0, hF]]
      have := key (-((fixn q p : Nat) : Rat)) (dv _ _ (by grind)) (dv _ _ (by grind))
      rw [show -((fixn q p : Nat) : Rat) / ((10 ^ p : Nat) : Rat) = -(((fixn q p : Nat) : Rat) / ((10 ^ p : Nat) : Rat)) by grind] at this
      exact this
    · have hF0 : fixn q p = 0 := by omega
      rw [show decide (q.num < 0 ∧ fixn q p ≠ 0) = false by simp [hF0]]
      rw [hF0, show ((0 : Nat) : Rat) = 0 from rfl] at c1 c2
      rw [hF0]
      exact key (((0 : Nat) : Rat)) (dv _ _ (by rw [show ((0 : Nat) : Rat) = 0 from rfl]; grind)) (dv _ _ (by rw [show ((0 : Nat) : Rat) = 0 from rfl]; grind))
  · rw [if_neg h0] at c1 c2
    rw [show decide (q.num < 0 ∧ fixn q p ≠ 0) = false by simp [h0]]
    exact key _ (dv _ _ (by grind)) (dv _ _ (by grind))
/-- A decimal fraction is written exactly. -/
theorem fixq_exact (n : Int) (j m : Nat) (q : Rat) (hq : (n : Rat) / ((10 ^ j : Nat) : Rat) = q) : fixq q (j + m) = q := by
  have ht : ((10 ^ j : Nat) : Rat) ≠ 0 := by
    have h1 : (0 : Rat) < ((10 ^ j : Nat) : Rat) := by
      rw [show (0 : Rat) = ((0 : Nat) : Rat) from rfl, Rat.natCast_lt_natCast]
      exact Nat.pow_pos (by decide)
    intro e
    rw [e] at h1
    exact absurd h1 (by decide)
  have hm : ((10 ^ m : Nat) : Rat) ≠ 0 := by
    have h1 : (0 : Rat) < ((10 ^ m : Nat) : Rat) := by
      rw [show (0 : Rat) = ((0 : Nat) : Rat) from rfl, Rat.natCast_lt_natCast]
      exact Nat.pow_pos (by decide)
    intro e
    rw [e] at h1
    exact absurd h1 (by decide)
  have hd : ((q.den : Nat) : Rat) ≠ 0 := by simpa using q.den_nz
  have hs := sgnq_num q
  have hden := q.den_nz
  have hpos : 0 < 10 ^ j := Nat.pow_pos (by decide)
  have hsn : (q.num < 0 ↔ n < 0) ∧ q.num.natAbs * 10 ^ j = n.natAbs * q.den := by
    have e1 : q.num * ((10 ^ j : Nat) : Int) = n * (q.den : Int) := by
      have h := Rat.mkRat_self q
      rw [Rat.mkRat_eq_div] at h
      have e2 : ((q.num : Int) : Rat) * ((10 ^ j : Nat) : Rat) = (n : Rat) * ((q.den : Nat) : Rat) := by grind
      rw [← Rat.intCast_natCast, ← Rat.intCast_natCast, ← Rat.intCast_mul, ← Rat.intCast_mul, Rat.intCast_inj] at e2
      exact e2
    refine ⟨?_, ?_⟩
    · constructor
      · intro h
        have := Int.mul_neg_of_neg_of_pos h (show (0 : Int) < ((10 ^ j : Nat) : Int) by omega)
        rw [e1] at this
        exact Int.lt_of_not_ge fun hge => by have := Int.mul_nonneg hge (show (0 : Int) ≤ (q.den : Int) by omega); omega
      · intro h
        have := Int.mul_neg_of_neg_of_pos h (show (0 : Int) < (q.den : Int) by omega)
        rw [← e1] at this
        exact Int.lt_of_not_ge fun hge => by have := Int.mul_nonneg hge (show (0 : Int) ≤ ((10 ^ j : Nat) : Int) by omega); omega
    · have e3 := congrArg Int.natAbs e1
      rw [Int.natAbs_mul, Int.natAbs_mul] at e3
      exact e3
  have hF : fixn q (j + m) = n.natAbs * 10 ^ m := by
    unfold fixn
    rw [Nat.pow_add, ← Nat.mul_assoc, hsn.2]
    have e : n.natAbs * q.den * 10 ^ m * 2 + q.den = n.natAbs * 10 ^ m * (q.den * 2) + q.den := by
      rw [Nat.mul_right_comm n.natAbs q.den, Nat.mul_assoc _ q.den 2]
    rw [e, Nat.mul_comm _ (q.den * 2), Nat.mul_add_div (by omega), Nat.div_eq_of_lt (by omega), Nat.add_zero]
  unfold fixq
  rw [hF]
  have e0 : decide (q.num < 0 ∧ n.natAbs * 10 ^ m ≠ 0) = decide (n < 0) := by
    rw [decide_eq_decide, hsn.1]
    constructor
    · exact fun h => h.1
    · intro h
      exact ⟨h, Nat.mul_ne_zero (by omega) (Nat.ne_of_gt (Nat.pow_pos (by decide)))⟩
  rw [e0, Nat.pow_add, Rat.natCast_mul, Rat.natCast_mul]
  unfold sgnq
  by_cases h0 : n < 0
  · rw [if_pos (by simpa using h0)]
    have e : ((n.natAbs : Nat) : Rat) = -((n : Int) : Rat) := by
      rw [← Rat.intCast_natCast, show ((n.natAbs : Nat) : Int) = -n by omega, Rat.intCast_neg]
    rw [e]
    grind
  · rw [if_neg (by simpa using h0)]
    have e : ((n.natAbs : Nat) : Rat) = ((n : Int) : Rat) := by
      rw [← Rat.intCast_natCast, show ((n.natAbs : Nat) : Int) = n by omega]
    rw [e]
    grind
theorem sgnq_parts (neg : Bool) (q : Rat) : (sgnq neg q).num.natAbs = q.num.natAbs ∧ (sgnq neg q).den = q.den := by
  unfold sgnq
  cases neg <;> simp
theorem div_parts (a b : Nat) (hb : b ≠ 0) : ((a : Rat) / (b : Rat)).num.natAbs ≤ a ∧ ((a : Rat) / (b : Rat)).den ≤ b := by
  have e : (a : Rat) / (b : Rat) = mkRat (a : Int) b := by rw [Rat.mkRat_eq_div, Rat.intCast_natCast]
  rw [e, Rat.num_mkRat, Rat.den_mkRat, if_neg hb, if_neg hb]
  exact ⟨Int.natAbs_ediv_le_natAbs _ _, Nat.div_le_self _ _⟩
theorem nat_parts (a : Nat) : ((a : Nat) : Rat).num.natAbs = a ∧ ((a : Nat) : Rat).den = 1 := by simp
theorem take_isd (l : List UInt8) : ∀ c ∈ l.take (prun l), isd c = true := by
  intro c hc
  rw [List.mem_take_iff_getElem] at hc
  obtain ⟨i, hi, rfl⟩ := hc
  obtain ⟨d, hd, hd2⟩ := prun_at (l := l) (i := i) (by omega)
  rw [List.getElem?_eq_getElem (by omega)] at hd
  rw [Option.some.inj hd]
  exact hd2
theorem take_lt (l : List UInt8) : dval (l.take (prun l)) < 10 ^ prun l := by
  have h := dval_lt (take_isd l)
  rwa [List.length_take, Nat.min_eq_left (prun_le l)] at h
theorem zero_parts (k : Nat) : (0 : Rat).num.natAbs < 10 ^ k ∧ (0 : Rat).den ≤ 10 ^ k := ⟨Nat.pow_pos (by decide), Nat.pow_pos (by decide)⟩
/-- The size of what a text is parsed as. -/
theorem pparse_size (l : List UInt8) : (pparse l).1.num.natAbs < 10 ^ l.length ∧ (pparse l).1.den ≤ 10 ^ l.length := by
  have hp : ∀ k, 0 < 10 ^ k := fun k => Nat.pow_pos (by decide)
  unfold pparse
  simp only
  generalize (if l.head? = some 45 then 1 else 0) = a
  have h1 := prun_le (l.drop a)
  have h2 := take_lt (l.drop a)
  have h3 := prun_le (l.drop (a + prun (l.drop a) + 1))
  have h4 := take_lt (l.drop (a + prun (l.drop a) + 1))
  rw [List.length_drop] at h1 h3
  generalize prun (l.drop a) = k at *
  generalize prun (l.drop (a + k + 1)) = j at *
  generalize dval ((l.drop a).take k) = u at *
  generalize dval ((l.drop (a + k + 1)).take j) = v at *
  have m1 : 10 ^ k ≤ 10 ^ l.length := Nat.pow_le_pow_right (by decide) (by omega)
  have m2 : 10 ^ j ≤ 10 ^ l.length := Nat.pow_le_pow_right (by decide) (by omega)
  have hl := hp l.length
  split
  · exact zero_parts _
  · split
    · exact zero_parts _
    · split
      · have s := sgnq_parts (a == 1) (u : Rat)
        have n := nat_parts u
        dsimp only
        rw [s.1, s.2, n.1, n.2]
        omega
      · split
        · split
          · exact zero_parts _
          · split
            · exact zero_parts _
            · split
              · exact zero_parts _
              · split
                · split
                  · exact zero_parts _
                  · have s := sgnq_parts (a == 1) ((u : Rat) / (v : Rat))
                    have n := div_parts u v (by omega)
                    dsimp only
                    rw [s.1, s.2]
                    omega
                · have s := sgnq_parts (a == 1) (((u * 10 ^ j + v : Nat) : Rat) / ((10 ^ j : Nat) : Rat))
                  have n := div_parts (u * 10 ^ j + v) (10 ^ j) (Nat.ne_of_gt (hp j))
                  dsimp only
                  rw [s.1, s.2]
                  have m3 : u * 10 ^ j + v < 10 ^ (k + j) := by
                    rw [Nat.pow_add]
                    have : (u + 1) * 10 ^ j ≤ 10 ^ k * 10 ^ j := Nat.mul_le_mul_right _ (by omega)
                    rw [Nat.add_mul, Nat.one_mul] at this
                    omega
                  have m4 : 10 ^ (k + j) ≤ 10 ^ l.length := by
                    by_cases hj : j = 0
                    · subst hj; exact m1
                    · exact Nat.pow_le_pow_right (by decide) (by omega)
                  omega
        · exact zero_parts _
section
variable {l : List UInt8} {a k j : Nat}
theorem pp_limit (ha : (if l.head? = some 45 then 1 else 0) = a) (hk : prun (l.drop a) = k) (h : 4000 < k) : pparse l = (0, a + 4000, 8) := by
  unfold pparse
  simp only [ha, hk]
  rw [if_pos h]
theorem pp_none (ha : (if l.head? = some 45 then 1 else 0) = a) (hk : prun (l.drop a) = k) (h : k = 0) : pparse l = (0, a, 4) := by
  unfold pparse
  simp only [ha, hk]
  rw [if_neg (by omega), if_pos h]
theorem pp_int (ha : (if l.head? = some 45 then 1 else 0) = a) (hk : prun (l.drop a) = k) (h : k ≤ 4000) (h0 : k ≠ 0) (he : a + k = l.length) : pparse l = (sgnq (a == 1) (dval ((l.drop a).take k) : Nat), 0, 0) := by
  unfold pparse
  simp only [ha, hk]
  rw [if_neg (by omega), if_neg h0, if_pos he]
theorem pp_other (ha : (if l.head? = some 45 then 1 else 0) = a) (hk : prun (l.drop a) = k) (h : k ≤ 4000) (h0 : k ≠ 0) (he : a + k ≠ l.length) (hc : ¬ (l[a + k]? = some 47 ∨ l[a + k]? = some 46)) : pparse l = (0, a + k, 4) := by
  unfold pparse
  simp only [ha, hk]
  rw [if_neg (by omega), if_neg h0, if_neg he, if_neg hc]
theorem pp_limit2 (ha : (if l.head? = some 45 then 1 else 0) = a) (hk : prun (l.drop a) = k) (hj : prun (l.drop (a + k + 1)) = j) (h : k ≤ 4000) (h0 : k ≠ 0) (he : a + k ≠ l.length) (hc : l[a + k]? = some 47 ∨ l[a + k]? = some 46) (h2 : 4000 < k + j) :
    pparse l = (0, a + k + 1 + (4000 - k), 8) := by
  unfold pparse
  simp only [ha, hk, hj]
  rw [if_neg (by omega), if_neg h0, if_neg he, if_pos hc, if_pos h2]
theorem pp_none2 (ha : (if l.head? = some 45 then 1 else 0) = a) (hk : prun (l.drop a) = k) (hj : prun (l.drop (a + k + 1)) = j) (h : k ≤ 4000) (h0 : k ≠ 0) (he : a + k ≠ l.length) (hc : l[a + k]? = some 47 ∨ l[a + k]? = some 46) (h2 : j = 0) :
    pparse l = (0, a + k + 1, 4) := by
  unfold pparse
  simp only [ha, hk, hj]
  rw [if_neg (by omega), if_neg h0, if_neg he, if_pos hc, if_neg (by omega), if_pos h2]
theorem pp_more (ha : (if l.head? = some 45 then 1 else 0) = a) (hk : prun (l.drop a) = k) (hj : prun (l.drop (a + k + 1)) = j) (h : k ≤ 4000) (h0 : k ≠ 0) (he : a + k ≠ l.length) (hc : l[a + k]? = some 47 ∨ l[a + k]? = some 46) (h2 : k + j ≤ 4000) (h3 : j ≠ 0) (h4 : a + k + 1 + j ≠ l.length) :
    pparse l = (0, a + k + 1 + j, 4) := by
  unfold pparse
  simp only [ha, hk, hj]
  rw [if_neg (by omega), if_neg h0, if_neg he, if_pos hc, if_neg (by omega), if_neg h3, if_pos h4]
theorem pp_zero (ha : (if l.head? = some 45 then 1 else 0) = a) (hk : prun (l.drop a) = k) (hj : prun (l.drop (a + k + 1)) = j) (h : k ≤ 4000) (h0 : k ≠ 0) (he : a + k ≠ l.length) (hc : l[a + k]? = some 47) (h2 : k + j ≤ 4000) (h3 : j ≠ 0) (h4 : a + k + 1 + j = l.length)
    (hd : dval ((l.drop (a + k + 1)).take j) = 0) : pparse l = (0, a + k + 1, 3) := by
  unfold pparse
  simp only [ha, hk, hj]
  rw [if_neg (by omega), if_neg h0, if_neg he, if_pos (.inl hc), if_neg (by omega), if_neg h3, if_neg (by omega), if_pos hc, if_pos hd]
theorem pp_frac (ha : (if l.head? = some 45 then 1 else 0) = a) (hk : prun (l.drop a) = k) (hj : prun (l.drop (a + k + 1)) = j) (h : k ≤ 4000) (h0 : k ≠ 0) (he : a + k ≠ l.length) (hc : l[a + k]? = some 47) (h2 : k + j ≤ 4000) (h3 : j ≠ 0) (h4 : a + k + 1 + j = l.length)
    (hd : dval ((l.drop (a + k + 1)).take j) ≠ 0) : pparse l = (sgnq (a == 1) ((dval ((l.drop a).take k) : Nat) / (dval ((l.drop (a + k + 1)).take j) : Nat)), 0, 0) := by
  unfold pparse
  simp only [ha, hk, hj]
  rw [if_neg (by omega), if_neg h0, if_neg he, if_pos (.inl hc), if_neg (by omega), if_neg h3, if_neg (by omega), if_pos hc, if_neg hd]
theorem pp_dec (ha : (if l.head? = some 45 then 1 else 0) = a) (hk : prun (l.drop a) = k) (hj : prun (l.drop (a + k + 1)) = j) (h : k ≤ 4000) (h0 : k ≠ 0) (he : a + k ≠ l.length) (hc : l[a + k]? = some 46) (h2 : k + j ≤ 4000) (h3 : j ≠ 0) (h4 : a + k + 1 + j = l.length) :
    pparse l = (sgnq (a == 1) ((dval ((l.drop a).take k) * 10 ^ j + dval ((l.drop (a + k + 1)).take j) : Nat) / (10 ^ j : Nat)), 0, 0) := by
  unfold pparse
  simp only [ha, hk, hj]
  rw [if_neg (by omega), if_neg h0, if_neg he, if_pos (.inr hc), if_neg (by omega), if_neg h3, if_neg (by omega), if_neg (by rw [hc]; decide)]
end
theorem sgnq_iv (neg : Bool) (n d : Nat) : sgnq neg ((n : Rat) / (d : Rat)) = (((if neg then -(n : Int) else (n : Int)) : Int) : Rat) / ((d : Int) : Rat) := by
  unfold sgnq
  cases neg
  · simp only [Bool.false_eq_true, if_false, Rat.intCast_natCast]
  · simp only [if_true, Rat.intCast_neg, Rat.intCast_natCast]
    rw [Rat.div_def, Rat.div_def, Rat.neg_mul]
end Go.Proofs.YtjpchbcenbjibaaGreatDoor
