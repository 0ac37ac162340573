/-
  The negated number.
-/
import Derived.Test.YthiapkalmmgliaaDoorK5
namespace Go.Proofs.YthiapkalmmgliaaDoor
open Go.RowKit
set_option linter.unusedVariables false
set_option linter.unusedSimpArgs false

theorem isd_neg {q : Rat} (h : Isd q) : Isd (-q) := by
  unfold Isd
  exact h
theorem dm_neg (q : Rat) : dm (-q) = dm q := by
  unfold dm
  rw [show (-q).num = -q.num from rfl, Int.natAbs_neg]
theorem de_neg (q : Rat) : de (-q) = de q := by
  unfold de
  rw [show (-q).num = -q.num from rfl, Int.natAbs_neg, show (-q).den = q.den from rfl]
theorem Cy.pos_iff {w : World} {s : Bool} {A : Option Addr} {n c : Nat} {e : Int} {q : Rat} (h : Cy w s A n c e q) : 0 < n ↔ q ≠ 0 := by
  have hl := h.1.len
  constructor
  · rintro h0 rfl
    rw [dmq_zero] at hl
    simp [dg_zero] at hl
    omega
  · intro h0
    rcases Nat.eq_zero_or_pos n with hn | hn
    · exact absurd (dm_eq_zero.1 (dg_nil_iff.1 (List.eq_nil_of_length_eq_zero (hl.trans hn)))) h0
    · exact hn
theorem neg_lt (q : Rat) : decide (-q < 0) = (!decide (q < 0) && decide (q ≠ 0)) := by
  apply Bool.eq_iff_iff.2
  simp
  constructor
  · intro h
    exact ⟨by grind, by grind⟩
  · rintro ⟨h1, h2⟩
    grind
set_option maxHeartbeats 1000000 in
theorem ryneg_false_false (A : Option Addr) (n c : Nat) (e : Int) (q : Rat) (w : World) (h : Cy w false A 0 c e q) :
    Calls Tryd.prog 22 #[.agg #[.bool false, .slice A 0 c, .int .i64 e]] w (GDy w q) := by
  have hb0 : decide (0 < ((0 : Nat) : Int)) = false := by simp
  have F1 := (Below.refl w.heap.size w).alloc (Nat.le_refl _) (EY false A 0 c e)
  have F2 := F1.alloc F1.size EY0
  go_enter Tryd.func22, Tryd.ntmps22
  go_wp2_with fail
  exact bodyPost_ret (v := .agg #[.bool false, .slice A 0 c, .int .i64 e]) (by simp [results, Tryd.results22, go_sem]) rfl ⟨_, _, _, _, _, rfl, (h.alloc _).alloc _, ((Below.refl w.heap.size w).alloc (Nat.le_refl _) _).alloc ((Below.refl w.heap.size w).alloc (Nat.le_refl _) _).size _⟩
set_option maxHeartbeats 1000000 in
theorem ryneg_false_true (A : Option Addr) (n c : Nat) (e : Int) (q : Rat) (w : World) (hn : 0 < n) (h : Cy w true A n c e q) :
    Calls Tryd.prog 22 #[.agg #[.bool false, .slice A n c, .int .i64 e]] w (GDy w q) := by
  have hb0 : decide (0 < ((n : Nat) : Int)) = true := by simp; omega
  have F1 := (Below.refl w.heap.size w).alloc (Nat.le_refl _) (EY false A n c e)
  have F2 := F1.alloc F1.size EY0
  go_enter Tryd.func22, Tryd.ntmps22
  go_wp2_with fail
  exact bodyPost_ret (v := .agg #[.bool true, .slice A n c, .int .i64 e]) (by simp [results, Tryd.results22, go_sem, hn]) rfl ⟨_, _, _, _, _, rfl, (h.alloc _).alloc _, ((Below.refl w.heap.size w).alloc (Nat.le_refl _) _).alloc ((Below.refl w.heap.size w).alloc (Nat.le_refl _) _).size _⟩
set_option maxHeartbeats 1000000 in
theorem ryneg_true_false (A : Option Addr) (n c : Nat) (e : Int) (q : Rat) (w : World) (h : Cy w false A 0 c e q) :
    Calls Tryd.prog 22 #[.agg #[.bool true, .slice A 0 c, .int .i64 e]] w (GDy w q) := by
  have hb0 : decide (0 < ((0 : Nat) : Int)) = false := by simp
  have F1 := (Below.refl w.heap.size w).alloc (Nat.le_refl _) (EY true A 0 c e)
  have F2 := F1.alloc F1.size EY0
  go_enter Tryd.func22, Tryd.ntmps22
  go_wp2_with fail
  exact bodyPost_ret (v := .agg #[.bool false, .slice A 0 c, .int .i64 e]) (by simp [results, Tryd.results22, go_sem]) rfl ⟨_, _, _, _, _, rfl, (h.alloc _).alloc _, ((Below.refl w.heap.size w).alloc (Nat.le_refl _) _).alloc ((Below.refl w.heap.size w).alloc (Nat.le_refl _) _).size _⟩
set_option maxHeartbeats 1000000 in
theorem ryneg_true_true (A : Option Addr) (n c : Nat) (e : Int) (q : Rat) (w : World) (hn : 0 < n) (h : Cy w false A n c e q) :
    Calls Tryd.prog 22 #[.agg #[.bool true, .slice A n c, .int .i64 e]] w (GDy w q) := by
  have hb0 : decide (0 < ((n : Nat) : Int)) = true := by simp; omega
  have F1 := (Below.refl w.heap.size w).alloc (Nat.le_refl _) (EY true A n c e)
  have F2 := F1.alloc F1.size EY0
  go_enter Tryd.func22, Tryd.ntmps22
  go_wp2_with fail
  exact bodyPost_ret (v := .agg #[.bool false, .slice A n c, .int .i64 e]) (by simp [results, Tryd.results22, go_sem, hn]) rfl ⟨_, _, _, _, _, rfl, (h.alloc _).alloc _, ((Below.refl w.heap.size w).alloc (Nat.le_refl _) _).alloc ((Below.refl w.heap.size w).alloc (Nat.le_refl _) _).size _⟩
theorem ryneg (s : Bool) (A : Option Addr) (n c : Nat) (e : Int) (q : Rat) (w : World) (h : Cy w s A n c e q) :
    Calls Tryd.prog 22 #[.agg #[.bool s, .slice A n c, .int .i64 e]] w (GDy w (-q)) := by
  have hs : (!s && decide (0 < n)) = decide (-q < 0) := by
    rw [neg_lt, ← h.2.1]
    congr 1
    exact decide_eq_decide.2 h.pos_iff
  have hc : Cy w (!s && decide (0 < n)) A n c e (-q) := ⟨by rw [dm_neg]; exact h.1, hs, by rw [de_neg]; exact h.2.2.1, isd_neg h.2.2.2⟩
  clear hs h
  by_cases h0 : n = 0
  · subst h0
    rcases s with _ | _
    · exact ryneg_false_false A 0 c e _ w hc
    · exact ryneg_true_false A 0 c e _ w hc
  · have h1 : 0 < n := by omega
    rw [decide_eq_true h1] at hc
    rcases s with _ | _
    · exact ryneg_false_true A n c e _ w h1 hc
    · exact ryneg_true_true A n c e _ w h1 hc
end Go.Proofs.YthiapkalmmgliaaDoor
