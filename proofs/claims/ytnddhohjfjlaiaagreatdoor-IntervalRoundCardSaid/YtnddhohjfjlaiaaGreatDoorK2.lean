/-
  Odd parts, and the canonical form of a dyadic number: mathematics.
-/
import Derived.Test.YtnddhohjfjlaiaaGreatDoorK1
namespace Go.Proofs.YtnddhohjfjlaiaaGreatDoor
open Go.RowKit
set_option linter.unusedVariables false
set_option linter.unusedSimpArgs false

/-- How often 2 divides a number. -/
def twF : Nat → Nat → Nat
  | 0, _ => 0
  | f + 1, n => if n % 2 = 1 ∨ n = 0 then 0 else twF f (n / 2) + 1
def tw (n : Nat) : Nat := twF n n
/-- The odd part. -/
def odp (n : Nat) : Nat := n / 2 ^ tw n
theorem twF_of {f g n : Nat} (hf : n ≤ f) (hg : n ≤ g) : twF f n = twF g n := by
  induction f generalizing g n with
  | zero =>
    obtain rfl : n = 0 := by omega
    cases g <;> rfl
  | succ f ih =>
    rcases g with _ | g
    · obtain rfl : n = 0 := by omega
      rfl
    · unfold twF
      split
      · rfl
      · rename_i h
        rw [ih (g := g) (by omega) (by omega)]
theorem tw_zero : tw 0 = 0 := rfl
theorem odp_zero : odp 0 = 0 := rfl
theorem tw_odd {n : Nat} (h : n % 2 = 1) : tw n = 0 := by
  obtain ⟨m, rfl⟩ : ∃ m, n = m + 1 := ⟨n - 1, by omega⟩
  show twF (m + 1) (m + 1) = 0
  rw [twF, if_pos (Or.inl h)]
theorem tw_even {n : Nat} (h : n % 2 = 0) (h0 : n ≠ 0) : tw n = tw (n / 2) + 1 := by
  obtain ⟨m, rfl⟩ : ∃ m, n = m + 1 := ⟨n - 1, by omega⟩
  show twF (m + 1) (m + 1) = twF ((m + 1) / 2) _ + 1
  rw [twF, if_neg (by omega), twF_of (f := m) (g := (m + 1) / 2) (by omega) (Nat.le_refl _)]
theorem odp_odd {n : Nat} (h : n % 2 = 1) : odp n = n := by
  unfold odp
  rw [tw_odd h, Nat.pow_zero, Nat.div_one]
theorem odp_even {n : Nat} (h : n % 2 = 0) (h0 : n ≠ 0) : odp n = odp (n / 2) := by
  unfold odp
  rw [tw_even h h0, Nat.pow_succ, Nat.mul_comm, ← Nat.div_div_eq_div_mul]
theorem odp_tw {n : Nat} (h0 : n ≠ 0) : odp n % 2 = 1 ∧ odp n * 2 ^ tw n = n := by
  induction n using Nat.strongRecOn with
  | _ n ih =>
    rcases Nat.mod_two_eq_zero_or_one n with h | h
    · obtain ⟨h1, h2⟩ := ih (n / 2) (by omega) (by omega)
      refine ⟨by rw [odp_even h h0]; exact h1, ?_⟩
      rw [odp_even h h0, tw_even h h0, Nat.pow_succ, ← Nat.mul_assoc, h2]
      omega
    · refine ⟨by rw [odp_odd h]; exact h, ?_⟩
      rw [odp_odd h, tw_odd h, Nat.pow_zero, Nat.mul_one]
theorem odp_le (n : Nat) : odp n ≤ n := Nat.div_le_self _ _
theorem tw_mul {o : Nat} (h : o % 2 = 1) (j : Nat) : tw (o * 2 ^ j) = j ∧ odp (o * 2 ^ j) = o := by
  induction j with
  | zero => rw [Nat.pow_zero, Nat.mul_one]; exact ⟨tw_odd h, odp_odd h⟩
  | succ j ih =>
    have e : o * 2 ^ (j + 1) = (o * 2 ^ j) * 2 := by rw [Nat.pow_succ, Nat.mul_assoc]
    have h1 : (o * 2 ^ (j + 1)) % 2 = 0 := by rw [e]; omega
    have h2 : o * 2 ^ j ≠ 0 := Nat.ne_of_gt (Nat.mul_pos (by omega) (Nat.two_pow_pos j))
    have h3 : o * 2 ^ (j + 1) ≠ 0 := by rw [e]; omega
    have h4 : o * 2 ^ (j + 1) / 2 = o * 2 ^ j := by rw [e]; omega
    rw [tw_even h1 h3, odp_even h1 h3, h4, ih.1, ih.2]
    exact ⟨rfl, rfl⟩

/-- A sign, a factor and an exponent as a number. -/
def dvl (s : Bool) (m : Nat) (e : Int) : Rat := ((if s then -(m : Int) else (m : Int) : Int) : Rat) * p2 e
/-- The number is dyadic. -/
def Isd (q : Rat) : Prop := q.den = 2 ^ q.den.log2
/-- The odd factor of a dyadic number and its exponent. -/
def dm (q : Rat) : Nat := odp q.num.natAbs
def de (q : Rat) : Int := (tw q.num.natAbs : Int) - q.den.log2

theorem rat_mk {n : Int} {d : Nat} (hd : d ≠ 0) (hc : Nat.gcd n.natAbs d = 1) : (mkRat n d).num = n ∧ (mkRat n d).den = d := by
  have hc2 : Nat.gcd d n.natAbs = 1 := by rw [Nat.gcd_comm]; exact hc
  rw [Rat.num_mkRat, Rat.den_mkRat, if_neg hd, if_neg hd, hc2]
  simp
theorem odd_gcd {o : Nat} (h : o % 2 = 1) (j : Nat) : Nat.gcd o (2 ^ j) = 1 := by
  have h1 : Nat.Coprime 2 o := by
    unfold Nat.Coprime
    rw [Nat.gcd_rec, h]
    rfl
  exact (Nat.Coprime.pow_left j h1).symm
theorem int_p2 (n : Int) (j : Nat) : (n : Rat) * p2 (-(j : Int)) = mkRat n (2 ^ j) := by
  rw [p2_neg, p2_nat, Rat.mkRat_eq_div, Rat.div_def]
theorem int_up (n : Int) (j : Nat) : (n : Rat) * p2 (j : Int) = ((n * (2 ^ j : Nat) : Int) : Rat) := by
  rw [p2_nat', ← Rat.intCast_mul]
theorem log2_pow (j : Nat) : (2 ^ j).log2 = j := Nat.log2_two_pow
/-- An odd number times a power of 2: its parts. -/
theorem odd_parts {n : Int} (h : n.natAbs % 2 = 1) (e : Int) : Isd ((n : Rat) * p2 e) ∧ dm ((n : Rat) * p2 e) = n.natAbs ∧ de ((n : Rat) * p2 e) = e ∧ (decide (((n : Rat) * p2 e) < 0) = decide (n < 0)) := by
  have hs : decide (((n : Rat) * p2 e) < 0) = decide (n < 0) := by
    have hp := p2_pos e
    refine decide_eq_decide.2 ⟨fun hh => ?_, fun hh => ?_⟩
    · have h1 : (n : Rat) * p2 e < ((0 : Int) : Rat) * p2 e := by simpa using hh
      exact int_lt.1 (lt_p2 (c := 0) h1)
    · have h1 := p2_lt e (int_lt.2 hh)
      simpa using h1
  refine ⟨?_, ?_, ?_, hs⟩ <;> rcases Int.lt_or_le e 0 with he | he
  · obtain ⟨j, rfl⟩ : ∃ j : Nat, e = -(j : Int) := ⟨(-e).toNat, by omega⟩
    rw [int_p2]
    have := (rat_mk (n := n) (Nat.ne_of_gt (Nat.two_pow_pos j)) (odd_gcd h j)).2
    unfold Isd
    rw [this, log2_pow]
  · obtain ⟨j, rfl⟩ : ∃ j : Nat, e = (j : Int) := ⟨e.toNat, by omega⟩
    rw [int_up]
    unfold Isd
    rfl
  · obtain ⟨j, rfl⟩ : ∃ j : Nat, e = -(j : Int) := ⟨(-e).toNat, by omega⟩
    rw [int_p2]
    unfold dm
    rw [(rat_mk (n := n) (Nat.ne_of_gt (Nat.two_pow_pos j)) (odd_gcd h j)).1, odp_odd h]
  · obtain ⟨j, rfl⟩ : ∃ j : Nat, e = (j : Int) := ⟨e.toNat, by omega⟩
    rw [int_up]
    unfold dm
    rw [Rat.num_intCast, Int.natAbs_mul, Int.natAbs_natCast]
    exact (tw_mul h j).2
  · obtain ⟨j, rfl⟩ : ∃ j : Nat, e = -(j : Int) := ⟨(-e).toNat, by omega⟩
    rw [int_p2]
    unfold de
    have h1 := rat_mk (n := n) (Nat.ne_of_gt (Nat.two_pow_pos j)) (odd_gcd h j)
    rw [h1.1, h1.2, tw_odd h, log2_pow]
    omega
  · obtain ⟨j, rfl⟩ : ∃ j : Nat, e = (j : Int) := ⟨e.toNat, by omega⟩
    rw [int_up]
    unfold de
    rw [Rat.num_intCast, Rat.den_intCast, Int.natAbs_mul, Int.natAbs_natCast, (tw_mul h j).1]
    have : Nat.log2 1 = 0 := by decide
    rw [this]
    omega
theorem dvl_zero (s : Bool) (e : Int) : dvl s 0 e = 0 := by
  unfold dvl
  cases s <;> simp
theorem dvl_odd (s : Bool) (m : Nat) (e : Int) (h0 : m ≠ 0) : dvl s m e = dvl s (odp m) (e + tw m) := by
  obtain ⟨h1, h2⟩ := odp_tw h0
  unfold dvl
  have e1 : (if s then -(m : Int) else (m : Int) : Int) = (if s then -(odp m : Int) else (odp m : Int)) * ((2 ^ tw m : Nat) : Int) := by
    have h3 : (m : Int) = (odp m : Int) * ((2 ^ tw m : Nat) : Int) := by rw [← Int.natCast_mul, h2]
    cases s <;> simp only [if_true, if_false, Bool.false_eq_true]
    · exact h3
    · rw [Int.neg_mul, ← h3]
  rw [e1, Rat.intCast_mul, p2_add, p2_nat', Rat.mul_assoc, Rat.mul_comm (p2 e)]
theorem sgn_abs (s : Bool) (m : Nat) : (if s then -(m : Int) else (m : Int) : Int).natAbs = m := by cases s <;> simp
/-- The canonical form of a factor that is not 0. -/
theorem dvl_parts (s : Bool) (m : Nat) (e : Int) (h0 : m ≠ 0) : Isd (dvl s m e) ∧ dm (dvl s m e) = odp m ∧ de (dvl s m e) = e + tw m ∧ decide (dvl s m e < 0) = s := by
  rw [dvl_odd s m e h0]
  obtain ⟨h1, h2⟩ := odp_tw h0
  obtain ⟨a, b, c, d⟩ := odd_parts (n := (if s then -(odp m : Int) else (odp m : Int))) (by rw [sgn_abs]; exact h1) (e + tw m)
  rw [sgn_abs] at b
  refine ⟨a, b, c, d.trans ?_⟩
  have : 0 < odp m := by omega
  cases s <;> simp <;> omega
theorem dvl_isd (s : Bool) (m : Nat) (e : Int) : Isd (dvl s m e) := by
  by_cases h0 : m = 0
  · subst h0
    rw [dvl_zero]
    unfold Isd
    rfl
  · exact (dvl_parts s m e h0).1
theorem dmq_zero : dm 0 = 0 := rfl
theorem de_zero : de 0 = 0 := rfl
/-- A dyadic number is what its parts say. -/
theorem dvl_of {q : Rat} (h : Isd q) : dvl (decide (q < 0)) (dm q) (de q) = q := by
  have e0 : q = dvl (decide (q < 0)) q.num.natAbs (-(q.den.log2 : Int)) := by
    unfold dvl
    have hs : (if decide (q < 0) = true then -(q.num.natAbs : Int) else (q.num.natAbs : Int)) = q.num := by
      by_cases hq : q < 0
      · have : q.num < 0 := by have := (Rat.lt_iff q 0).1 hq; simpa using this
        rw [if_pos (by simpa using hq)]
        omega
      · have : ¬ q.num < 0 := fun hh => hq ((Rat.lt_iff q 0).2 (by simpa using hh))
        rw [if_neg (by simpa using hq)]
        omega
    rw [hs, int_p2, ← h, Rat.mkRat_self]
  by_cases h0 : q.num.natAbs = 0
  · have : q = 0 := Rat.num_eq_zero.1 (by omega)
    subst this
    rw [dmq_zero, dvl_zero]
  · have h1 := dvl_odd (decide (q < 0)) q.num.natAbs (-(q.den.log2 : Int)) h0
    have e1 : -(q.den.log2 : Int) + tw q.num.natAbs = de q := by unfold de; omega
    rw [e1] at h1
    exact h1.symm.trans e0.symm
theorem dm_odd {q : Rat} (h0 : q ≠ 0) : dm q % 2 = 1 := (odp_tw (by have : q.num ≠ 0 := fun h => h0 (Rat.num_eq_zero.1 h); omega)).1
theorem dm_eq_zero {q : Rat} : dm q = 0 ↔ q = 0 := by
  constructor
  · intro h
    refine Decidable.byContradiction fun h0 => ?_
    have := dm_odd h0
    omega
  · rintro rfl; rfl
/-- A number has at most k bits if its odd factor has. -/
theorem dk_iff {k : Nat} {q : Rat} : Dk k q ↔ Isd q ∧ bl (dm q) ≤ k := by
  constructor
  · rintro ⟨n, e, h1, rfl⟩
    have e1 : (n : Rat) * p2 e = dvl (decide (n < 0)) n.natAbs e := by
      unfold dvl
      congr 2
      by_cases hn : n < 0
      · rw [if_pos (by simpa using hn)]; omega
      · rw [if_neg (by simpa using hn)]; omega
    rw [e1]
    refine ⟨dvl_isd _ _ _, bl_iff.2 ?_⟩
    by_cases h0 : n.natAbs = 0
    · rw [h0, dvl_zero, dmq_zero]
      exact Nat.two_pow_pos k
    · rw [(dvl_parts _ _ e h0).2.1]
      exact Nat.lt_of_le_of_lt (odp_le _) h1
  · rintro ⟨h1, h2⟩
    rw [← dvl_of h1]
    exact ⟨_, _, by rw [sgn_abs]; exact bl_iff.1 h2, rfl⟩
theorem isd_dk {q : Rat} : Isd q ↔ ∃ k, Dk k q := ⟨fun h => ⟨_, dk_iff.2 ⟨h, Nat.le_refl _⟩⟩, fun ⟨k, h⟩ => (dk_iff.1 h).1⟩

end Go.Proofs.YtnddhohjfjlaiaaGreatDoor
