/-
  The mathematics of DyadicOutward.
-/
import Derived.Test.YthiapkalmmgliaaDoorK17
namespace Go.Proofs.YthiapkalmmgliaaDoor
open Go.RowKit
set_option linter.unusedVariables false
set_option linter.unusedSimpArgs false

/-- The absolute value, as a quotient. -/
def qab (q : Rat) : Rat := (q.num.natAbs : Rat) / (q.den : Rat)
theorem qab_rv (s : Bool) (xs ys : List Nat) : rv false xs ys = qab (rv s xs ys) := by
  have h : ∀ q : Rat, qab q = if q < 0 then -q else q := by
    intro q
    unfold qab
    by_cases h0 : q.num < 0
    · have h1 : q < 0 := by
        refine Rat.not_le.1 fun hh => ?_
        have := Rat.num_nonneg.2 hh
        omega
      rw [if_pos h1]
      have h2 := rat_neg_abs h0
      grind
    · have h1 : ¬ q < 0 := Rat.not_lt.2 (Rat.num_nonneg.1 (by omega))
      rw [if_neg h1]
      exact rat_abs (by omega)
  have hd : rden ys ≠ 0 := by have := rden_pos ys; omega
  have hp : (0 : Rat) ≤ rv false xs ys := by
    rw [rv, ← Rat.num_nonneg, Rat.num_mkRat, if_neg hd]
    have e : iv false xs = ((val xs : Nat) : Int) := rfl
    rw [e]
    exact Int.ediv_nonneg (Int.natCast_nonneg _) (Int.natCast_nonneg _)
  cases s
  · rw [h, if_neg (Rat.not_lt.2 hp)]
  · have e : rv true xs ys = -rv false xs ys := by
      rw [rv, rv, Rat.mkRat_eq_div, Rat.mkRat_eq_div]
      have e1 : iv true xs = -iv false xs := rfl
      rw [e1, Rat.intCast_neg, Rat.div_def, Rat.neg_mul, ← Rat.div_def]
    rw [h, e]
    by_cases h0 : rv false xs ys = 0
    · rw [h0]; rfl
    · have h1 : -rv false xs ys < 0 := by grind
      rw [if_pos h1]
      grind
theorem width (q : Rat) {k : Nat} (hk : 1 ≤ k) : (tq q k true - tq q k false) * ((2 ^ (k - 1) : Nat) : Rat) ≤ qab q := by
  by_cases h0 : q = 0
  · subst h0
    rw [tq_zero, tq_zero]
    have e : qab 0 = 0 := by decide +kernel
    rw [e]
    grind
  · have h := rhi_rlo (k := k) hk (num_posq h0) q.den_pos
    have e : ∀ up, tq q k up = dvl (decide (q.num < 0)) (tqm q k up) (rex q.num.natAbs q.den k) := fun up => by unfold tq; rw [if_neg h0]
    have e9 : tq q k true - tq q k false = ((rhi q.num.natAbs q.den k : Int) : Rat) * p2 (rex q.num.natAbs q.den k) - ((rlo q.num.natAbs q.den k : Int) : Rat) * p2 (rex q.num.natAbs q.den k) := by
      rw [e, e]
      by_cases hn : q.num < 0
      · have e1 : tqm q k true = rlo q.num.natAbs q.den k := by unfold tqm; rw [decide_eq_true hn]; rfl
        have e2 : tqm q k false = rhi q.num.natAbs q.den k := by unfold tqm; rw [decide_eq_true hn]; rfl
        rw [e1, e2, decide_eq_true hn, dvl_t, dvl_t]
        grind
      · have e1 : tqm q k true = rhi q.num.natAbs q.den k := by unfold tqm; rw [decide_eq_false hn]; rfl
        have e2 : tqm q k false = rlo q.num.natAbs q.den k := by unfold tqm; rw [decide_eq_false hn]; rfl
        rw [e1, e2, decide_eq_false hn, dvl_f, dvl_f]
    unfold qab
    rw [e9]
    exact h
theorem sz_eq0 {a b : Rat} : decide (sz (a - b).num = 0) = decide (a = b) := by
  refine decide_eq_decide.2 ⟨fun h => ?_, fun h => ?_⟩
  · have h1 : (a - b).num = 0 := by
      unfold sz at h
      split at h
      · assumption
      · split at h <;> omega
    have h2 : a - b = 0 := Rat.num_eq_zero.1 h1
    grind
  · subst h
    have h2 : a - a = 0 := by grind
    rw [h2]
    rfl
/-- Both are the number exactly if it has at most so many bits. -/
theorem out_eq (q : Rat) {k : Nat} (hk : 1 ≤ k) : (tq q k false = q ↔ (Isd q ∧ bl (dm q) ≤ k)) ∧ (tq q k true = q ↔ (Isd q ∧ bl (dm q) ≤ k)) :=
  ⟨(tq_dn q hk).exact.trans dk_iff, (tq_up q hk).exact.trans dk_iff⟩
end Go.Proofs.YthiapkalmmgliaaDoor
