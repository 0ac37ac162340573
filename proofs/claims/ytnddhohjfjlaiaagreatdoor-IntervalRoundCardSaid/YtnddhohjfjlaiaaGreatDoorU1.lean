/-
  small.
-/
import Derived.Test.YtnddhohjfjlaiaaGreatDoorU0
namespace Go.Proofs.YtnddhohjfjlaiaaGreatDoor
open Go.RowKit
set_option linter.unusedVariables false
set_option linter.unusedSimpArgs false

theorem small_v (u v : Rv) (xs ys xs' ys' : List Nat) (r : Bool) (w : World) (hr : (isC u.s xs ys && isC v.s xs' ys' && decide (rv u.s xs ys ≤ rv v.s xs' ys')) = r) (hu : Rx w u xs ys) (hv : Rx w v xs' ys') (lu : Lu 2 u) (lv : Lu 2 v) : Calls Tryz.prog 5 #[.agg #[.bool u.s, .slice u.A u.n u.c, .slice u.B u.m u.d, .bool v.s, .slice v.A v.n v.c, .slice v.B v.m v.d]] w (Asks w (.bool r)) := by
  have HR := hide hr
  have k1 := lu.mono (show 2 ≤ 4000 by decide)
  have k2 := lv.mono (show 2 ≤ 4000 by decide)
  clear hr
  have hu_1 := hu.alloc (EV u v)
  have hv_1 := hv.alloc (EV u v)
  have bx_1 : Sv ((w).alloc (EV u v)) (w.heap.size) u v := by have h_ := Sv.new (w) u v; exact h_
  have F1 := (Below.refl w.heap.size w).alloc (Nat.le_refl _) (EV u v)
  go_enter Tryz.func5, Tryz.ntmps5
  have bx_u1 := bx_1.cell0
  have bx_v1 := bx_1.cell1
  have bx_w1 := bx_1.cell2
  have bx_x1 := bx_1.cell3
  have bx_y1 := bx_1.cell4
  have bx_z1 := bx_1.cell5
  go_wp2_with fail
  refine (short_yes _ _ lu).mono ?_
  rintro e w2 ⟨rfl, b2⟩
  have hu_2 := hu_1.below b2
  have hv_2 := hv_1.below b2
  have bx_2 := bx_1.below b2 bx_1.lt
  have F2 := below_then F1 (Nat.le_refl _) b2
  have bx_u2 := bx_2.cell0
  have bx_v2 := bx_2.cell1
  have bx_w2 := bx_2.cell2
  have bx_x2 := bx_2.cell3
  have bx_y2 := bx_2.cell4
  have bx_z2 := bx_2.cell5
  go_wp2_with fail
  refine (short_yes _ _ lv).mono ?_
  rintro e w3 ⟨rfl, b3⟩
  have hu_3 := hu_2.below b3
  have hv_3 := hv_2.below b3
  have bx_3 := bx_2.below b3 bx_2.lt
  have F3 := below_then F2 (Nat.le_refl _) b3
  have bx_u3 := bx_3.cell0
  have bx_v3 := bx_3.cell1
  have bx_w3 := bx_3.cell2
  have bx_x3 := bx_3.cell3
  have bx_y3 := bx_3.cell4
  have bx_z3 := bx_3.cell5
  go_wp2_with fail
  refine (valid_iv _ _ xs ys xs' ys' r _ HR.out hu_3 hv_3 k1 k2).mono ?_
  rintro e w4 ⟨rfl, b4⟩
  have hu_4 := hu_3.below b4
  have hv_4 := hv_3.below b4
  have bx_4 := bx_3.below b4 bx_3.lt
  have F4 := below_then F3 (Nat.le_refl _) b4
  have bx_u4 := bx_4.cell0
  have bx_v4 := bx_4.cell1
  have bx_w4 := bx_4.cell2
  have bx_x4 := bx_4.cell3
  have bx_y4 := bx_4.cell4
  have bx_z4 := bx_4.cell5
  go_wp2
  go_ret
  exact ⟨rfl, F4⟩
theorem small_no (u v : Rv) (xs ys xs' ys' : List Nat) (w : World) (hu : Rx w u xs ys) (hv : Rx w v xs' ys') (hh : ¬ (Lu 2 u ∧ Lu 2 v ∧ (isC u.s xs ys && isC v.s xs' ys' && decide (rv u.s xs ys ≤ rv v.s xs' ys')) = true)) : Calls Tryz.prog 5 #[.agg #[.bool u.s, .slice u.A u.n u.c, .slice u.B u.m u.d, .bool v.s, .slice v.A v.n v.c, .slice v.B v.m v.d]] w (Asks w (.bool false)) := by
  by_cases h1 : Lu 2 u
  · by_cases h2 : Lu 2 v
    · refine small_v u v xs ys xs' ys' false w ?_ hu hv h1 h2
      rcases Bool.eq_false_or_eq_true (isC u.s xs ys && isC v.s xs' ys' && decide (rv u.s xs ys ≤ rv v.s xs' ys')) with hc | hc
      · exact absurd ⟨h1, h2, hc⟩ hh
      · exact hc
    · have H2 := hide h2
      clear h2 hh
      have bx_1 : Sv ((w).alloc (EV u v)) (w.heap.size) u v := by have h_ := Sv.new (w) u v; exact h_
      have F1 := (Below.refl w.heap.size w).alloc (Nat.le_refl _) (EV u v)
      go_enter Tryz.func5, Tryz.ntmps5
      have bx_u1 := bx_1.cell0
      have bx_v1 := bx_1.cell1
      have bx_w1 := bx_1.cell2
      have bx_x1 := bx_1.cell3
      have bx_y1 := bx_1.cell4
      have bx_z1 := bx_1.cell5
      go_wp2_with fail
      refine (short_yes _ _ h1).mono ?_
      rintro e w2 ⟨rfl, b2⟩
      have bx_2 := bx_1.below b2 bx_1.lt
      have F2 := below_then F1 (Nat.le_refl _) b2
      have bx_u2 := bx_2.cell0
      have bx_v2 := bx_2.cell1
      have bx_w2 := bx_2.cell2
      have bx_x2 := bx_2.cell3
      have bx_y2 := bx_2.cell4
      have bx_z2 := bx_2.cell5
      go_wp2_with fail
      refine (short_no _ _ H2.out).mono ?_
      rintro e w3 ⟨rfl, b3⟩
      have bx_3 := bx_2.below b3 bx_2.lt
      have F3 := below_then F2 (Nat.le_refl _) b3
      have bx_u3 := bx_3.cell0
      have bx_v3 := bx_3.cell1
      have bx_w3 := bx_3.cell2
      have bx_x3 := bx_3.cell3
      have bx_y3 := bx_3.cell4
      have bx_z3 := bx_3.cell5
      go_wp2
      go_ret
      exact ⟨rfl, F3⟩
  · have H1 := hide h1
    clear h1 hh
    have bx_1 : Sv ((w).alloc (EV u v)) (w.heap.size) u v := by have h_ := Sv.new (w) u v; exact h_
    have F1 := (Below.refl w.heap.size w).alloc (Nat.le_refl _) (EV u v)
    go_enter Tryz.func5, Tryz.ntmps5
    have bx_u1 := bx_1.cell0
    have bx_v1 := bx_1.cell1
    have bx_w1 := bx_1.cell2
    have bx_x1 := bx_1.cell3
    have bx_y1 := bx_1.cell4
    have bx_z1 := bx_1.cell5
    go_wp2_with fail
    refine (short_no _ _ H1.out).mono ?_
    rintro e w2 ⟨rfl, b2⟩
    have bx_2 := bx_1.below b2 bx_1.lt
    have F2 := below_then F1 (Nat.le_refl _) b2
    have bx_u2 := bx_2.cell0
    have bx_v2 := bx_2.cell1
    have bx_w2 := bx_2.cell2
    have bx_x2 := bx_2.cell3
    have bx_y2 := bx_2.cell4
    have bx_z2 := bx_2.cell5
    go_wp2
    go_ret
    exact ⟨rfl, F2⟩
theorem Cu.rx {w : World} {u : Rv} {p : Rat} (h : Cu w u p) : Rx w u (dg p.num.natAbs) (qd p) := ⟨h.1, h.2.1⟩
theorem Cu.val {w : World} {u : Rv} {p : Rat} (h : Cu w u p) : rv u.s (dg p.num.natAbs) (qd p) = p := by
  have h1 : u.s = decide (p.num < 0) := h.2.2
  rw [rv, rden_qd, show iv u.s (dg p.num.natAbs) = p.num from ?_, Rat.mkRat_self]
  rw [iv, val_dg, h1]
  split <;> rename_i h0 <;> rw [decide_eq_true_eq] at h0 <;> omega
theorem Cu.isc {w : World} {u : Rv} {p : Rat} (h : Cu w u p) : isC u.s (dg p.num.natAbs) (qd p) = true := by
  unfold isC
  rw [h.val]
  have h1 : u.s = decide (p.num < 0) := h.2.2
  rw [h1]
  simp
theorem Cu.vx {w : World} {u v : Rv} {p q : Rat} (h : Cu w u p) (k : Cu w v q) (hpq : p ≤ q) : (isC u.s (dg p.num.natAbs) (qd p) && isC v.s (dg q.num.natAbs) (qd q) && decide (rv u.s (dg p.num.natAbs) (qd p) ≤ rv v.s (dg q.num.natAbs) (qd q))) = true := by
  rw [h.isc, k.isc, h.val, k.val, decide_eq_true hpq]
  rfl
end Go.Proofs.YtnddhohjfjlaiaaGreatDoor
