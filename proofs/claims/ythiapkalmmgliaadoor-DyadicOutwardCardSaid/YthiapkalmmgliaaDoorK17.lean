/-
  A number rounded down or up to k bits, and its size.
-/
import Derived.Test.YthiapkalmmgliaaDoorK16
namespace Go.Proofs.YthiapkalmmgliaaDoor
open Go.RowKit
set_option linter.unusedVariables false
set_option linter.unusedSimpArgs false

/-- The factor of the rounded number. -/
def tqm (q : Rat) (k : Nat) (up : Bool) : Nat := if (!up == decide (q.num < 0)) = true then rhi q.num.natAbs q.den k else rlo q.num.natAbs q.den k
/-- q rounded to k bits, down or up. -/
def tq (q : Rat) (k : Nat) (up : Bool) : Rat := if q = 0 then 0 else dvl (decide (q.num < 0)) (tqm q k up) (rex q.num.natAbs q.den k)
theorem tq_zero (k : Nat) (up : Bool) : tq 0 k up = 0 := if_pos rfl
theorem rat_abs {q : Rat} (h : 0 ≤ q.num) : ((q.num.natAbs : Nat) : Rat) / (q.den : Rat) = q := by
  have e : ((q.num.natAbs : Nat) : Rat) = (q.num : Rat) := by rw [← Rat.intCast_natCast, Int.natAbs_of_nonneg h]
  rw [e]
  rw [← Rat.mkRat_eq_div]
  exact Rat.mkRat_self q
theorem rat_neg_abs {q : Rat} (h : q.num < 0) : -(((q.num.natAbs : Nat) : Rat) / (q.den : Rat)) = q := by
  have e : ((q.num.natAbs : Nat) : Rat) = -(q.num : Rat) := by
    rw [← Rat.intCast_natCast, ← Rat.intCast_neg]
    congr 1
    omega
  rw [e, Rat.div_def, Rat.neg_mul, Rat.neg_neg, ← Rat.div_def]
  rw [← Rat.mkRat_eq_div]
  exact Rat.mkRat_self q
theorem dvl_t (m : Nat) (e : Int) : dvl true m e = -(((m : Int) : Rat) * p2 e) := by
  unfold dvl
  rw [if_pos rfl, Rat.intCast_neg, Rat.neg_mul]
theorem dvl_f (m : Nat) (e : Int) : dvl false m e = ((m : Int) : Rat) * p2 e := by
  unfold dvl
  rw [if_neg (by decide)]
theorem num_posq {q : Rat} (h0 : q ≠ 0) : 0 < q.num.natAbs := by
  have : q.num ≠ 0 := fun h => h0 (Rat.num_eq_zero.1 h)
  omega
theorem tq_dn (q : Rat) {k : Nat} (hk : 1 ≤ k) : IsDn k q (tq q k false) := by
  unfold tq
  split
  · rename_i h; rw [h]; exact dn_zero k
  · rename_i h0
    by_cases hn : q.num < 0
    · have h := (rhi_up (k := k) hk (num_posq h0) q.den_pos).neg
      rw [rat_neg_abs hn] at h
      rw [decide_eq_true hn, dvl_t]
      have e : tqm q k false = rhi q.num.natAbs q.den k := by unfold tqm; rw [decide_eq_true hn]; rfl
      rw [e]
      exact h
    · have h := rlo_dn (k := k) hk (num_posq h0) q.den_pos
      rw [rat_abs (by omega)] at h
      rw [decide_eq_false hn, dvl_f]
      have e : tqm q k false = rlo q.num.natAbs q.den k := by unfold tqm; rw [decide_eq_false hn]; rfl
      rw [e]
      exact h
theorem tq_up (q : Rat) {k : Nat} (hk : 1 ≤ k) : IsUp k q (tq q k true) := by
  unfold tq
  split
  · rename_i h; rw [h]; exact up_zero k
  · rename_i h0
    by_cases hn : q.num < 0
    · have h := (rlo_dn (k := k) hk (num_posq h0) q.den_pos).neg
      rw [rat_neg_abs hn] at h
      rw [decide_eq_true hn, dvl_t]
      have e : tqm q k true = rlo q.num.natAbs q.den k := by unfold tqm; rw [decide_eq_true hn]; rfl
      rw [e]
      exact h
    · have h := rhi_up (k := k) hk (num_posq h0) q.den_pos
      rw [rat_abs (by omega)] at h
      rw [decide_eq_false hn, dvl_f]
      have e : tqm q k true = rhi q.num.natAbs q.den k := by unfold tqm; rw [decide_eq_false hn]; rfl
      rw [e]
      exact h
theorem tqm_bd {q : Rat} {k : Nat} (up : Bool) (hk : 1 ≤ k) (h0 : q ≠ 0) : tqm q k up ≠ 0 ∧ tqm q k up ≤ 2 ^ k := by
  have hb := rex_bd (k := k) hk (num_posq h0) q.den_pos
  have hp : 0 < 2 ^ (k - 1) := Nat.two_pow_pos _
  have h1 : rlo q.num.natAbs q.den k ≠ 0 ∧ rlo q.num.natAbs q.den k ≤ 2 ^ k := by unfold rlo; omega
  have h2 : rhi q.num.natAbs q.den k ≠ 0 ∧ rhi q.num.natAbs q.den k ≤ 2 ^ k := by unfold rhi; split <;> omega
  unfold tqm
  split
  · exact h2
  · exact h1
theorem bl_pw {X K : Nat} (h : X < pw K) : bl X ≤ 32 * K := bl_iff.2 (by rw [← pw_pow]; exact h)
theorem rex_size {q : Rat} {K k : Nat} (hs : Qs K q) : -(32 * K + k : Int) ≤ rex q.num.natAbs q.den k ∧ rex q.num.natAbs q.den k ≤ 32 * K + 1 := by
  have h1 := bl_pw hs.1
  have h2 := bl_pw hs.2
  unfold rex ex0
  split <;> omega
theorem tq_de {q : Rat} {K k : Nat} (up : Bool) (hk : 1 ≤ k) (hs : Qs K q) : -(32 * K + k : Int) ≤ de (tq q k up) ∧ de (tq q k up) ≤ 32 * K + k + 2 := by
  unfold tq
  split
  · rw [de_zero]; omega
  · rename_i h0
    obtain ⟨h1, h2⟩ := tqm_bd up hk h0
    rw [(dvl_parts _ _ _ h1).2.2.1]
    have h3 := rex_size (k := k) hs
    have h4 : tw (tqm q k up) < k + 1 := tw_lt (Nat.lt_of_le_of_lt h2 (Nat.pow_lt_pow_right (by decide) (Nat.lt_succ_self k))) h1
    omega
theorem tq_dm {q : Rat} {k : Nat} (up : Bool) (hk : 1 ≤ k) : bl (dm (tq q k up)) ≤ k := by
  cases up
  · exact (dk_iff.1 (tq_dn q hk).1).2
  · exact (dk_iff.1 (tq_up q hk).1).2
theorem ytow_q (s : Bool) (A : Option Addr) (n c : Nat) (B : Option Addr) (m d : Nat) (k K : Nat) (P : Int) (up : Bool) (q : Rat) (w : World) (hP : P = (k : Int)) (h : Iq w s A n c B m d q) (hn : n ≤ 3000) (hm : m ≤ 3000) (hs : Qs K q) (hK : K ≤ 1000) (hk : 1 ≤ k ∧ k ≤ 4096) :
    Calls Tryd.prog 58 #[.agg #[.bool s, .slice A n c, .slice B m d], .int .i64 P, .bool up] w (GDE w (tq q k up) 0) := by
  subst hP
  by_cases h0 : q = 0
  · subst h0
    rw [tq_zero]
    exact toward_zero s A n c B m d k up w h (by omega) (by omega) (by omega)
  · have h1 := rex_size (k := k) hs
    have h2 := tq_de (k := k) up hk.1 hs
    have h3 := tqm_bd up hk.1 h0
    refine toward_q s A n c B m d k up q (tq q k up) w h hn hm h0 hk ?_ (by omega) (by omega) ?_
    · unfold tq
      rw [if_neg h0]
      rfl
    · show bl (tqm q k up) ≤ 320000
      have : bl (tqm q k up) ≤ k + 1 := bl_iff.2 (Nat.lt_of_le_of_lt h3.2 (Nat.pow_lt_pow_right (by decide) (Nat.lt_succ_self k)))
      omega
theorem rydown_q (s : Bool) (A : Option Addr) (n c : Nat) (B : Option Addr) (m d : Nat) (k K : Nat) (P : Int) (q : Rat) (w : World) (hP : P = (k : Int)) (h : Iq w s A n c B m d q) (hn : n ≤ 3000) (hm : m ≤ 3000) (hs : Qs K q) (hK : K ≤ 1000) (hk : 1 ≤ k ∧ k ≤ 4096) :
    Calls Tryd.prog 26 #[.agg #[.bool s, .slice A n c, .slice B m d], .int .i64 P] w (GDE w (tq q k false) 0) :=
  rydown s A n c B m d P _ 0 w (hide fun W hb => ytow_q s A n c B m d k K P false q W hP (h.below hb) hn hm hs hK hk)
theorem ryup_q (s : Bool) (A : Option Addr) (n c : Nat) (B : Option Addr) (m d : Nat) (k K : Nat) (P : Int) (q : Rat) (w : World) (hP : P = (k : Int)) (h : Iq w s A n c B m d q) (hn : n ≤ 3000) (hm : m ≤ 3000) (hs : Qs K q) (hK : K ≤ 1000) (hk : 1 ≤ k ∧ k ≤ 4096) :
    Calls Tryd.prog 27 #[.agg #[.bool s, .slice A n c, .slice B m d], .int .i64 P] w (GDE w (tq q k true) 0) :=
  ryup s A n c B m d P _ 0 w (hide fun W hb => ytow_q s A n c B m d k K P true q W hP (h.below hb) hn hm hs hK hk)
theorem rydown_b (s : Bool) (A : Option Addr) (n c : Nat) (B : Option Addr) (m d : Nat) (P : Int) (w : World) (hP : P < 1 ∨ 4096 < P) :
    Calls Tryd.prog 26 #[.agg #[.bool s, .slice A n c, .slice B m d], .int .i64 P] w (GDE w 0 1) :=
  rydown s A n c B m d P _ 1 w (hide fun W hb => toward_bad s A n c B m d P false W hP)
theorem ryup_b (s : Bool) (A : Option Addr) (n c : Nat) (B : Option Addr) (m d : Nat) (P : Int) (w : World) (hP : P < 1 ∨ 4096 < P) :
    Calls Tryd.prog 27 #[.agg #[.bool s, .slice A n c, .slice B m d], .int .i64 P] w (GDE w 0 1) :=
  ryup s A n c B m d P _ 1 w (hide fun W hb => toward_bad s A n c B m d P true W hP)
theorem tq_neg (q : Rat) {k : Nat} (hk : 1 ≤ k) : tq (-q) k false = -tq q k true := (tq_dn (-q) hk).uniq (tq_up q hk).neg
end Go.Proofs.YthiapkalmmgliaaDoor
