/-
  The walk of DecimalExact.
-/
import Derived.Test.YtjpchbcenbjibaaGreatDoorG3
import Derived.Deep.DeepCutAuto
import Derived.Deep.CutBlock
namespace Go.Proofs.YtjpchbcenbjibaaGreatDoor
open Go.RowKit
set_option linter.unusedVariables false
set_option linter.unusedSimpArgs false

theorem le_no (s : Bool) (A : Option Addr) (n c : Nat) (B : Option Addr) (m d : Nat) (P M : Int) (xs ys : List Nat) (w : World) (hx : Rd w A n c xs) (hy : Rd w B m d ys) (h : ¬ (n ≤ 8 ∧ m ≤ 8 ∧ isC s xs ys = true)) : Calls Tryz.prog 5 #[.agg #[.bool s, .slice A n c, .slice B m d], .int .i64 P, .int .i64 M] w (fun e w' => e = .returned (.bool true) ∧ Below w.heap.size w w') := by
  have HN := hide h
  clear h
  have hx_1 := hx.alloc (EQ s A n c B m d)
  have hy_1 := hy.alloc (EQ s A n c B m d)
  have bx_1 : Sq ((w).alloc (EQ s A n c B m d)) (w.heap.size) (.bool s) (.slice A n c) (.slice B m d) := by have h_ := Sq.new (w) (.bool s) (.slice A n c) (.slice B m d); exact h_
  have F1 := (Below.refl w.heap.size w).alloc (Nat.le_refl _) (EQ s A n c B m d)
  go_enter Tryz.func5, Tryz.ntmps5
  go_wp2_with fail
  refine (awake4 _).mono ?_
  rintro e w2 ⟨rfl, b2⟩
  have hx_2 := hx_1.below b2
  have hy_2 := hy_1.below b2
  have bx_2 := bx_1.below b2 bx_1.lt
  have F2 := below_then F1 (Nat.le_refl _) b2
  have bx_u2 := bx_2.cell0
  have bx_v2 := bx_2.cell1
  have bx_w2 := bx_2.cell2
  go_wp2_with fail
  refine (fair_not _ _ _ _ _ _ _ xs ys _ hx_2 hy_2 HN.out).mono ?_
  rintro e w3 ⟨rfl, b3⟩
  have hx_3 := hx_2.below b3
  have hy_3 := hy_2.below b3
  have bx_3 := bx_2.below b3 bx_2.lt
  have F3 := below_then F2 (Nat.le_refl _) b3
  have bx_u3 := bx_3.cell0
  have bx_v3 := bx_3.cell1
  have bx_w3 := bx_3.cell2
  go_wp2_with fail
  refine (awake4 _).mono ?_
  rintro e w4 ⟨rfl, b4⟩
  have hx_4 := hx_3.below b4
  have hy_4 := hy_3.below b4
  have bx_4 := bx_3.below b4 bx_3.lt
  have F4 := below_then F3 (Nat.le_refl _) b4
  have bx_u4 := bx_4.cell0
  have bx_v4 := bx_4.cell1
  have bx_w4 := bx_4.cell2
  go_wp2
  go_ret
  exact ⟨rfl, F4⟩
theorem le_den (s : Bool) (A : Option Addr) (n c : Nat) (B : Option Addr) (m d : Nat) (q : Rat) (P M : Int) (w : World) (h : Cq w s A n c B m d q) (hn : n ≤ 8) (hm : m ≤ 8) (h1 : 0 < m) : Calls Tryz.prog 5 #[.agg #[.bool s, .slice A n c, .slice B m d], .int .i64 P, .int .i64 M] w (fun e w' => e = .returned (.bool true) ∧ Below w.heap.size w w') := by
  have d0 : decide ((0 : Int) < (m : Int)) = true := by simp; omega
  have h_1 := h.alloc (EQ s A n c B m d)
  have bx_1 : Sq ((w).alloc (EQ s A n c B m d)) (w.heap.size) (.bool s) (.slice A n c) (.slice B m d) := by have h_ := Sq.new (w) (.bool s) (.slice A n c) (.slice B m d); exact h_
  have F1 := (Below.refl w.heap.size w).alloc (Nat.le_refl _) (EQ s A n c B m d)
  go_enter Tryz.func5, Tryz.ntmps5
  go_wp2_with fail
  refine (awake4 _).mono ?_
  rintro e w2 ⟨rfl, b2⟩
  have h_2 := h_1.below b2
  have bx_2 := bx_1.below b2 bx_1.lt
  have F2 := below_then F1 (Nat.le_refl _) b2
  have bx_u2 := bx_2.cell0
  have bx_v2 := bx_2.cell1
  have bx_w2 := bx_2.cell2
  go_wp2_with fail
  refine (fair_yes _ _ _ _ _ _ _ q _ h_2 hn hm).mono ?_
  rintro e w3 ⟨rfl, b3⟩
  have h_3 := h_2.below b3
  have bx_3 := bx_2.below b3 bx_2.lt
  have F3 := below_then F2 (Nat.le_refl _) b3
  have bx_u3 := bx_3.cell0
  have bx_v3 := bx_3.cell1
  have bx_w3 := bx_3.cell2
  go_wp2_with fail
  refine (awake4 _).mono ?_
  rintro e w4 ⟨rfl, b4⟩
  have h_4 := h_3.below b4
  have bx_4 := bx_3.below b4 bx_3.lt
  have F4 := below_then F3 (Nat.le_refl _) b4
  have bx_u4 := bx_4.cell0
  have bx_v4 := bx_4.cell1
  have bx_w4 := bx_4.cell2
  go_wp2
  go_ret
  exact ⟨rfl, F4⟩
theorem le_p0 (s : Bool) (A : Option Addr) (n c : Nat) (B : Option Addr) (m d : Nat) (q : Rat) (P M : Int) (w : World) (h : Cq w s A n c B m d q) (hn : n ≤ 8) (hm : m ≤ 8) (hm0 : m = 0) (h1 : P < 0) : Calls Tryz.prog 5 #[.agg #[.bool s, .slice A n c, .slice B m d], .int .i64 P, .int .i64 M] w (fun e w' => e = .returned (.bool true) ∧ Below w.heap.size w w') := by
  subst hm0
  have d1 : decide (P < 0) = true := decide_eq_true h1
  have h_1 := h.alloc (EQ s A n c B 0 d)
  have bx_1 : Sq ((w).alloc (EQ s A n c B 0 d)) (w.heap.size) (.bool s) (.slice A n c) (.slice B 0 d) := by have h_ := Sq.new (w) (.bool s) (.slice A n c) (.slice B 0 d); exact h_
  have F1 := (Below.refl w.heap.size w).alloc (Nat.le_refl _) (EQ s A n c B 0 d)
  go_enter Tryz.func5, Tryz.ntmps5
  go_wp2_with fail
  refine (awake4 _).mono ?_
  rintro e w2 ⟨rfl, b2⟩
  have h_2 := h_1.below b2
  have bx_2 := bx_1.below b2 bx_1.lt
  have F2 := below_then F1 (Nat.le_refl _) b2
  have bx_u2 := bx_2.cell0
  have bx_v2 := bx_2.cell1
  have bx_w2 := bx_2.cell2
  go_wp2_with fail
  refine (fair_yes _ _ _ _ _ _ _ q _ h_2 hn hm).mono ?_
  rintro e w3 ⟨rfl, b3⟩
  have h_3 := h_2.below b3
  have bx_3 := bx_2.below b3 bx_2.lt
  have F3 := below_then F2 (Nat.le_refl _) b3
  have bx_u3 := bx_3.cell0
  have bx_v3 := bx_3.cell1
  have bx_w3 := bx_3.cell2
  go_wp2_with fail
  refine (awake4 _).mono ?_
  rintro e w4 ⟨rfl, b4⟩
  have h_4 := h_3.below b4
  have bx_4 := bx_3.below b4 bx_3.lt
  have F4 := below_then F3 (Nat.le_refl _) b4
  have bx_u4 := bx_4.cell0
  have bx_v4 := bx_4.cell1
  have bx_w4 := bx_4.cell2
  go_wp2
  go_ret
  exact ⟨rfl, F4⟩
theorem le_p1 (s : Bool) (A : Option Addr) (n c : Nat) (B : Option Addr) (m d : Nat) (q : Rat) (P M : Int) (w : World) (h : Cq w s A n c B m d q) (hn : n ≤ 8) (hm : m ≤ 8) (hm0 : m = 0) (h1 : 30 < P) : Calls Tryz.prog 5 #[.agg #[.bool s, .slice A n c, .slice B m d], .int .i64 P, .int .i64 M] w (fun e w' => e = .returned (.bool true) ∧ Below w.heap.size w w') := by
  subst hm0
  have d1 : decide (P < 0) = false := decide_eq_false (by omega)
  have d2 : decide (30 < P) = true := decide_eq_true h1
  have h_1 := h.alloc (EQ s A n c B 0 d)
  have bx_1 : Sq ((w).alloc (EQ s A n c B 0 d)) (w.heap.size) (.bool s) (.slice A n c) (.slice B 0 d) := by have h_ := Sq.new (w) (.bool s) (.slice A n c) (.slice B 0 d); exact h_
  have F1 := (Below.refl w.heap.size w).alloc (Nat.le_refl _) (EQ s A n c B 0 d)
  go_enter Tryz.func5, Tryz.ntmps5
  go_wp2_with fail
  refine (awake4 _).mono ?_
  rintro e w2 ⟨rfl, b2⟩
  have h_2 := h_1.below b2
  have bx_2 := bx_1.below b2 bx_1.lt
  have F2 := below_then F1 (Nat.le_refl _) b2
  have bx_u2 := bx_2.cell0
  have bx_v2 := bx_2.cell1
  have bx_w2 := bx_2.cell2
  go_wp2_with fail
  refine (fair_yes _ _ _ _ _ _ _ q _ h_2 hn hm).mono ?_
  rintro e w3 ⟨rfl, b3⟩
  have h_3 := h_2.below b3
  have bx_3 := bx_2.below b3 bx_2.lt
  have F3 := below_then F2 (Nat.le_refl _) b3
  have bx_u3 := bx_3.cell0
  have bx_v3 := bx_3.cell1
  have bx_w3 := bx_3.cell2
  go_wp2_with fail
  refine (awake4 _).mono ?_
  rintro e w4 ⟨rfl, b4⟩
  have h_4 := h_3.below b4
  have bx_4 := bx_3.below b4 bx_3.lt
  have F4 := below_then F3 (Nat.le_refl _) b4
  have bx_u4 := bx_4.cell0
  have bx_v4 := bx_4.cell1
  have bx_w4 := bx_4.cell2
  go_wp2
  go_ret
  exact ⟨rfl, F4⟩
theorem le_m0 (s : Bool) (A : Option Addr) (n c : Nat) (B : Option Addr) (m d : Nat) (q : Rat) (P M : Int) (w : World) (h : Cq w s A n c B m d q) (hn : n ≤ 8) (hm : m ≤ 8) (hm0 : m = 0) (h1 : 0 ≤ P) (h2 : P ≤ 30) (h3 : M < 0) : Calls Tryz.prog 5 #[.agg #[.bool s, .slice A n c, .slice B m d], .int .i64 P, .int .i64 M] w (fun e w' => e = .returned (.bool true) ∧ Below w.heap.size w w') := by
  subst hm0
  have d1 : decide (P < 0) = false := decide_eq_false (by omega)
  have d2 : decide (30 < P) = false := decide_eq_false (by omega)
  have d3 : decide (M < 0) = true := decide_eq_true h3
  have h_1 := h.alloc (EQ s A n c B 0 d)
  have bx_1 : Sq ((w).alloc (EQ s A n c B 0 d)) (w.heap.size) (.bool s) (.slice A n c) (.slice B 0 d) := by have h_ := Sq.new (w) (.bool s) (.slice A n c) (.slice B 0 d); exact h_
  have F1 := (Below.refl w.heap.size w).alloc (Nat.le_refl _) (EQ s A n c B 0 d)
  go_enter Tryz.func5, Tryz.ntmps5
  go_wp2_with fail
  refine (awake4 _).mono ?_
  rintro e w2 ⟨rfl, b2⟩
  have h_2 := h_1.below b2
  have bx_2 := bx_1.below b2 bx_1.lt
  have F2 := below_then F1 (Nat.le_refl _) b2
  have bx_u2 := bx_2.cell0
  have bx_v2 := bx_2.cell1
  have bx_w2 := bx_2.cell2
  go_wp2_with fail
  refine (fair_yes _ _ _ _ _ _ _ q _ h_2 hn hm).mono ?_
  rintro e w3 ⟨rfl, b3⟩
  have h_3 := h_2.below b3
  have bx_3 := bx_2.below b3 bx_2.lt
  have F3 := below_then F2 (Nat.le_refl _) b3
  have bx_u3 := bx_3.cell0
  have bx_v3 := bx_3.cell1
  have bx_w3 := bx_3.cell2
  go_wp2_with fail
  refine (awake4 _).mono ?_
  rintro e w4 ⟨rfl, b4⟩
  have h_4 := h_3.below b4
  have bx_4 := bx_3.below b4 bx_3.lt
  have F4 := below_then F3 (Nat.le_refl _) b4
  have bx_u4 := bx_4.cell0
  have bx_v4 := bx_4.cell1
  have bx_w4 := bx_4.cell2
  go_wp2
  go_ret
  exact ⟨rfl, F4⟩
theorem le_m1 (s : Bool) (A : Option Addr) (n c : Nat) (B : Option Addr) (m d : Nat) (q : Rat) (P M : Int) (w : World) (h : Cq w s A n c B m d q) (hn : n ≤ 8) (hm : m ≤ 8) (hm0 : m = 0) (h1 : 0 ≤ P) (h2 : P ≤ 30) (h3 : 10 < M) : Calls Tryz.prog 5 #[.agg #[.bool s, .slice A n c, .slice B m d], .int .i64 P, .int .i64 M] w (fun e w' => e = .returned (.bool true) ∧ Below w.heap.size w w') := by
  subst hm0
  have d1 : decide (P < 0) = false := decide_eq_false (by omega)
  have d2 : decide (30 < P) = false := decide_eq_false (by omega)
  have d3 : decide (M < 0) = false := decide_eq_false (by omega)
  have d4 : decide (10 < M) = true := decide_eq_true h3
  have h_1 := h.alloc (EQ s A n c B 0 d)
  have bx_1 : Sq ((w).alloc (EQ s A n c B 0 d)) (w.heap.size) (.bool s) (.slice A n c) (.slice B 0 d) := by have h_ := Sq.new (w) (.bool s) (.slice A n c) (.slice B 0 d); exact h_
  have F1 := (Below.refl w.heap.size w).alloc (Nat.le_refl _) (EQ s A n c B 0 d)
  go_enter Tryz.func5, Tryz.ntmps5
  go_wp2_with fail
  refine (awake4 _).mono ?_
  rintro e w2 ⟨rfl, b2⟩
  have h_2 := h_1.below b2
  have bx_2 := bx_1.below b2 bx_1.lt
  have F2 := below_then F1 (Nat.le_refl _) b2
  have bx_u2 := bx_2.cell0
  have bx_v2 := bx_2.cell1
  have bx_w2 := bx_2.cell2
  go_wp2_with fail
  refine (fair_yes _ _ _ _ _ _ _ q _ h_2 hn hm).mono ?_
  rintro e w3 ⟨rfl, b3⟩
  have h_3 := h_2.below b3
  have bx_3 := bx_2.below b3 bx_2.lt
  have F3 := below_then F2 (Nat.le_refl _) b3
  have bx_u3 := bx_3.cell0
  have bx_v3 := bx_3.cell1
  have bx_w3 := bx_3.cell2
  go_wp2_with fail
  refine (awake4 _).mono ?_
  rintro e w4 ⟨rfl, b4⟩
  have h_4 := h_3.below b4
  have bx_4 := bx_3.below b4 bx_3.lt
  have F4 := below_then F3 (Nat.le_refl _) b4
  have bx_u4 := bx_4.cell0
  have bx_v4 := bx_4.cell1
  have bx_w4 := bx_4.cell2
  go_wp2
  go_ret
  exact ⟨rfl, F4⟩
set_option maxHeartbeats 1000000 in
theorem le_yes (s : Bool) (A : Option Addr) (n c : Nat) (B : Option Addr) (m d : Nat) (q : Rat) (P M : Int) (w : World) (h : Cq w s A n c B m d q) (hn : n ≤ 8) (hm : m ≤ 8) (hm0 : m = 0) (h1 : 0 ≤ P) (h2 : P ≤ 30) (h3 : 0 ≤ M) (h4 : M ≤ 10) : Calls Tryz.prog 5 #[.agg #[.bool s, .slice A n c, .slice B m d], .int .i64 P, .int .i64 M] w (fun e w' => e = .returned (.bool true) ∧ Below w.heap.size w w') := by
  have hs : Qs 8 q := h.iq.size hn hm (by omega)
  have k1 : 8 ≤ 1000 := by omega
  have k2 : 1 ≤ 8 := by omega
  have k3 : 8 ≤ 16384 := by omega
  subst hm0
  have d1 : decide (P < 0) = false := decide_eq_false (by omega)
  have d2 : decide (30 < P) = false := decide_eq_false (by omega)
  have d3 : decide (M < 0) = false := decide_eq_false (by omega)
  have d4 : decide (10 < M) = false := decide_eq_false (by omega)
  obtain ⟨j, hj⟩ : ∃ p : Nat, P = (p : Int) := ⟨P.toNat, by omega⟩
  obtain ⟨t, ht⟩ : ∃ p : Nat, M = (p : Int) := ⟨M.toNat, by omega⟩
  have hden : q.den = 1 := by
    have h5 := h.2.1.len
    by_cases h6 : q.den = 1
    · exact h6
    · rw [qd, if_neg h6] at h5
      have := dg_nil_iff.1 (List.length_eq_zero_iff.1 h5)
      exact absurd this q.den_nz
  have hqz : ((q.num : Int) : Rat) = q := by
    have := Rat.mkRat_self q
    rw [hden, Rat.mkRat_eq_div, show ((1 : Nat) : Rat) = 1 from rfl, Rat.div_def, show (1 : Rat)⁻¹ = 1 by decide +kernel, Rat.mul_one] at this
    exact this
  have hTs := (ten_q j).mono (show j + 1 ≤ 31 by omega)
  obtain ⟨T, hT⟩ : ∃ T : Rat, ((10 ^ j : Nat) : Rat) = T := ⟨_, rfl⟩
  rw [hT] at hTs
  have hT0 : T ≠ 0 := by
    rw [← hT]
    intro e
    have h1 : (0 : Rat) < ((10 ^ j : Nat) : Rat) := by
      rw [show (0 : Rat) = ((0 : Nat) : Rat) from rfl, Rat.natCast_lt_natCast]
      exact Nat.pow_pos (by decide)
    rw [e] at h1
    exact absurd h1 (by decide)
  obtain ⟨x, hx⟩ : ∃ x, q / T = x := ⟨_, rfl⟩
  have hxs : Qs 39 x := by rw [← hx]; exact size_div hs hTs (by omega)
  have hfx := fixq_exact q.num j t x (by rw [hT, hqz]; exact hx)
  have hb := fix_back x 39 (j + t) hxs (by omega) (by omega)
  rw [hfx] at hb
  obtain ⟨L, hL⟩ : ∃ L, ffix x (j + t) = L := ⟨_, rfl⟩
  rw [hL] at hb
  have HL := hide hL
  have HB := hide hb.1
  have lb : L.length ≤ 100000 := by have := hb.2; omega
  have HP := hide hj
  have HT := hide hT
  have HX := hide hx
  have HS := hide (show P + M = ((j + t : Nat) : Int) by omega)
  have hjw : j ≤ 1000 := by omega
  have n1 : n ≤ 4000 := by omega
  have n2 : 0 ≤ 4000 := by omega
  have k31 : 31 ≤ 4000 := by omega
  have k39 : 39 ≤ 16384 := by omega
  have k40 : j + t ≤ 4000 := by omega
  have e1_ := hTs.1
  have e2_ := hTs.2
  have x1 := hxs.1
  have x2 := hxs.2
  clear hL hb hj ht hT hx hfx hqz hden
  have h_1 := h.alloc (EQ s A n c B 0 d)
  have bx_1 : Sq ((w).alloc (EQ s A n c B 0 d)) (w.heap.size) (.bool s) (.slice A n c) (.slice B 0 d) := by have h_ := Sq.new (w) (.bool s) (.slice A n c) (.slice B 0 d); exact h_
  have F1 := (Below.refl w.heap.size w).alloc (Nat.le_refl _) (EQ s A n c B 0 d)
  go_enter Tryz.func5, Tryz.ntmps5
  go_wp2_with fail
  refine (awake4 _).mono ?_
  rintro e w2 ⟨rfl, b2⟩
  have h_2 := h_1.below b2
  have bx_2 := bx_1.below b2 bx_1.lt
  have F2 := below_then F1 (Nat.le_refl _) b2
  have bx_u2 := bx_2.cell0
  have bx_v2 := bx_2.cell1
  have bx_w2 := bx_2.cell2
  go_wp2_with fail
  refine (fair_yes _ _ _ _ _ _ _ q _ h_2 hn hm).mono ?_
  rintro e w3 ⟨rfl, b3⟩
  have h_3 := h_2.below b3
  have bx_3 := bx_2.below b3 bx_2.lt
  have F3 := below_then F2 (Nat.le_refl _) b3
  have bx_u3 := bx_3.cell0
  have bx_v3 := bx_3.cell1
  have bx_w3 := bx_3.cell2
  go_upto_region 3 with fail
  go_cut [7] (fun sx3 wy => ∃ (wx3 : World) (g : Nat) (s5 : Bool) (A5 : Option Addr) (n5 : Nat) (c5 : Nat) (B5 : Option Addr) (m5 : Nat) (d5 : Nat) (s6 : Bool) (A6 : Option Addr) (n6 : Nat) (c6 : Nat) (B6 : Option Addr) (m6 : Nat) (d6 : Nat), wx3 = wy ∧ sx3 = .pointer (some ⟨g, 0, none⟩) ∧ Sq wx3 g (.bool s6) (.slice A6 n6 c6) (.slice B6 m6 d6) ∧ w.heap.size ≤ g ∧ w.heap.size < g ∧ Sq wx3 (w.heap.size) (.bool s) (.slice A n c) (.slice B 0 d) ∧ Cq wx3 s A n c B 0 d q ∧ Cq wx3 s6 A6 n6 c6 B6 m6 d6 x ∧ Below w.heap.size w wx3)
  case first =>
    have h_4 := h_3.drew
    have bx_4 := bx_3.drew
    have F4 := F3.drew
    have h_z0 := (h_3.alloc EQ0).drew
    have bx_z0 := (bx_3.alloc EQ0).drew
    have lz_bx := bx_3.lt
    have gl := F3.size
    have F_z0 := (F3.alloc F3.size EQ0).drew
    have zb_0 : Sq ((w3).alloc EQ0).drew (w3.heap.size) (.bool false) (.slice none 0 0) (.slice none 0 0) := by have h_ := Sq.new (w3) (.bool false) (.slice none 0 0) (.slice none 0 0); exact h_.drew
    go_region_held3 (fun w' => w'.cell? ⟨w.heap.size, 0, none⟩ = some (.bool s) ∧ w'.cell? ⟨w.heap.size, 1, none⟩ = some (.slice A n c) ∧ w'.cell? ⟨w.heap.size, 2, none⟩ = some (.slice B 0 d))
      (first
        | with_reducible exact ⟨(bx_6.alloc (EQ s6 A6 n6 c6 B6 m6 d6)).cell0, (bx_6.alloc (EQ s6 A6 n6 c6 B6 m6 d6)).cell1, (bx_6.alloc (EQ s6 A6 n6 c6 B6 m6 d6)).cell2⟩
        | with_reducible exact ⟨(bx_6.past (u0 := .bool s6) (u1 := .slice A6 n6 c6) (u2 := .slice B6 m6 d6) (Nat.ne_of_lt lz_bx)).cell0, (bx_6.past (u0 := .bool s6) (u1 := .slice A6 n6 c6) (u2 := .slice B6 m6 d6) (Nat.ne_of_lt lz_bx)).cell1, (bx_6.past (u0 := .bool s6) (u1 := .slice A6 n6 c6) (u2 := .slice B6 m6 d6) (Nat.ne_of_lt lz_bx)).cell2⟩
        | with_reducible exact ⟨(bx_6.alloc EQ0).cell0, (bx_6.alloc EQ0).cell1, (bx_6.alloc EQ0).cell2⟩
        | with_reducible exact ⟨bx_6.cell0, bx_6.cell1, bx_6.cell2⟩
        | with_reducible exact ⟨bx_5.alloc EQ0 |>.cell0, bx_5.alloc EQ0 |>.cell1, bx_5.alloc EQ0 |>.cell2⟩
        | with_reducible exact ⟨(bx_5.alloc EQ0).cell0, (bx_5.alloc EQ0).cell1, (bx_5.alloc EQ0).cell2⟩
        | with_reducible exact ⟨bx_5.cell0, bx_5.cell1, bx_5.cell2⟩
        | with_reducible exact ⟨bx_z0.cell0, bx_z0.cell1, bx_z0.cell2⟩
        | with_reducible exact ⟨bx_4.cell0, bx_4.cell1, bx_4.cell2⟩
        | fail)
      (first
        | (go_at_call 13; (with_reducible refine (lpower_at j P T _ HP.out HT.out hjw).mono ?_); rintro e w5 ⟨s5, A5, n5, c5, B5, m5, d5, rfl, tp, b5⟩; have h_5 := h_4.below b5; have bx_5 := bx_4.below b5 bx_4.lt; have F5 := below_then F4 (Nat.le_refl _) b5)
        | (go_at_call 13; (with_reducible refine (lpower_at j P T _ HP.out HT.out hjw).mono ?_); rintro e w5 ⟨s5, A5, n5, c5, B5, m5, d5, rfl, tp, b5⟩; have h_5 := h_z0.below b5; have bx_5 := bx_z0.below b5 bx_z0.lt; have F5 := below_then F_z0 (Nat.le_refl _) b5; have zb_5 := zb_0.below b5 zb_0.lt)
        | (go_at_call 16; (with_reducible refine (rdiv_q _ _ _ _ _ _ _ _ _ _ _ _ _ _ q T x _ HX.out hT0 h_5.iq tp.iq n1 n2 (Nat.le_trans (tp.ln e1_) k31) (Nat.le_trans (tp.ld e2_) k31)).mono ?_); rintro e w6 ⟨s6, A6, n6, c6, B6, m6, d6, rfl, xx, b6⟩; have h_6 := h_5.below b6; have tp_6 := tp.below b6; have bx_6 := bx_5.below b6 bx_5.lt; have F6 := below_then F5 (Nat.le_refl _) b6; have zb_6 := zb_5.below b6 zb_5.lt; have zk6_0 := zb_6.cell0; have zk6_1 := zb_6.cell1; have zk6_2 := zb_6.cell2; have zf6_0 := zb_6.frozen 0; have zf6_1 := zb_6.frozen 1; have zf6_2 := zb_6.frozen 2)
        | (go_at_call 16; (with_reducible refine (rdiv_q _ _ _ _ _ _ _ _ _ _ _ _ _ _ q T x _ HX.out hT0 h_5.iq tp.iq n1 n2 (Nat.le_trans (tp.ln e1_) k31) (Nat.le_trans (tp.ld e2_) k31)).mono ?_); rintro e w6 ⟨s6, A6, n6, c6, B6, m6, d6, rfl, xx, b6⟩; have h_6 := h_5.below b6; have tp_6 := tp.below b6; have bx_6 := bx_5.below b6 bx_5.lt; have F6 := below_then F5 (Nat.le_refl _) b6)
        | (have h_z6 := h_5.alloc EQ0; have tp_z6 := tp.alloc EQ0; have bx_z6 := bx_5.alloc EQ0; have lz_bx := bx_5.lt; have gl := F5.size; have F_z6 := F5.alloc F5.size EQ0; have zb_5 := Sq.new (w5) (.bool false) (.slice none 0 0) (.slice none 0 0); go_at_call 16; (with_reducible refine (rdiv_q _ _ _ _ _ _ _ _ _ _ _ _ _ _ q T x _ HX.out hT0 h_z6.iq tp_z6.iq n1 n2 (Nat.le_trans (tp_z6.ln e1_) k31) (Nat.le_trans (tp_z6.ld e2_) k31)).mono ?_); rintro e w6 ⟨s6, A6, n6, c6, B6, m6, d6, rfl, xx, b6⟩; have h_6 := h_z6.below b6; have tp_6 := tp_z6.below b6; have bx_6 := bx_z6.below b6 bx_z6.lt; have F6 := below_then F_z6 (Nat.le_refl _) b6; have zb_6 := zb_5.below b6 zb_5.lt; have zk6_0 := zb_6.cell0; have zk6_1 := zb_6.cell1; have zk6_2 := zb_6.cell2; have zf6_0 := zb_6.frozen 0; have zf6_1 := zb_6.frozen 1; have zf6_2 := zb_6.frozen 2)
        | fail)
    all_goals (go_wp2_with fail; go_meet; first | exact ⟨_, _, s5, A5, n5, c5, B5, m5, d5, s6, A6, n6, c6, B6, m6, d6, rfl, rfl, zb_6.stor, gl, lz_bx, bx_6.past (Nat.ne_of_lt lz_bx), h_6.storQ zb_6 (.bool s6) (.slice A6 n6 c6) (.slice B6 m6 d6), xx.storQ zb_6 (.bool s6) (.slice A6 n6 c6) (.slice B6 m6 d6), below_storQ F6 gl⟩ | exact ⟨_, _, s5, A5, n5, c5, B5, m5, d5, s6, A6, n6, c6, B6, m6, d6, rfl, rfl, Sq.new w6 (.bool s6) (.slice A6 n6 c6) (.slice B6 m6 d6), F6.size, bx_6.lt, bx_6.alloc (EQ s6 A6 n6 c6 B6 m6 d6), h_6.alloc (EQ s6 A6 n6 c6 B6 m6 d6), xx.alloc (EQ s6 A6 n6 c6 B6 m6 d6), F6.alloc F6.size _⟩ | fail)
  case rest =>
    obtain ⟨wx3, g7, s5, A5, n5, c5, B5, m5, d5, s6, A6, n6, c6, B6, m6, d6, rfl, rfl, bz_7, gl_7, lt_bz_bx, bx_7, h_7, xx_7, F7⟩ := hcut
    have bx_u7 := bx_7.cell0
    have bx_v7 := bx_7.cell1
    have bx_w7 := bx_7.cell2
    have bz_u7 := bz_7.cell0
    have bz_v7 := bz_7.cell1
    have bz_w7 := bz_7.cell2
    go_wp2_with fail
    refine (fixed_at _ _ _ _ _ _ _ x 39 (j + t) (P + M) L _ HS.out HL.out xx_7 hxs (by omega) (by omega) k40).mono ?_
    rintro e w8 ⟨rfl, b8⟩
    have h_8 := h_7.below b8
    have xx_8 := xx_7.below b8
    have bx_8 := bx_7.below b8 bx_7.lt
    have bz_8 := bz_7.below b8 bz_7.lt
    have F8 := below_then F7 (Nat.le_refl _) b8
    have bx_u8 := bx_8.cell0
    have bx_v8 := bx_8.cell1
    have bx_w8 := bx_8.cell2
    have bz_u8 := bz_8.cell0
    have bz_v8 := bz_8.cell1
    have bz_w8 := bz_8.cell2
    go_wp2_with fail
    refine (parse_at L x 0 0 0 0 _ lb HB.out rfl rfl).mono ?_
    rintro e w9 ⟨s9, A9, n9, c9, B9, m9, d9, rfl, yy, b9⟩
    have h_9 := h_8.below b9
    have xx_9 := xx_8.below b9
    have bx_9 := bx_8.below b9 bx_8.lt
    have bz_9 := bz_8.below b9 bz_8.lt
    have F9 := below_then F8 (Nat.le_refl _) b9
    have bx_u9 := bx_9.cell0
    have bx_v9 := bx_9.cell1
    have bx_w9 := bx_9.cell2
    have bz_u9 := bz_9.cell0
    have bz_v9 := bz_9.cell1
    have bz_w9 := bz_9.cell2
    have lt_bw_bx := bx_9.lt
    have lt_bw_bz := bz_9.lt
    have h_10 := h_9.alloc (EQ s9 A9 n9 c9 B9 m9 d9)
    have xx_10 := xx_9.alloc (EQ s9 A9 n9 c9 B9 m9 d9)
    have yy_10 := yy.alloc (EQ s9 A9 n9 c9 B9 m9 d9)
    have bx_10 := bx_9.alloc (EQ s9 A9 n9 c9 B9 m9 d9)
    have bz_10 := bz_9.alloc (EQ s9 A9 n9 c9 B9 m9 d9)
    have bw_10 : Sq ((w9).alloc (EQ s9 A9 n9 c9 B9 m9 d9)) (w9.heap.size) (.bool s9) (.slice A9 n9 c9) (.slice B9 m9 d9) := by have h_ := Sq.new (w9) (.bool s9) (.slice A9 n9 c9) (.slice B9 m9 d9); exact h_
    have F10 := F9.alloc F9.size (EQ s9 A9 n9 c9 B9 m9 d9)
    have bx_u10 := bx_10.cell0
    have bx_v10 := bx_10.cell1
    have bx_w10 := bx_10.cell2
    have bz_u10 := bz_10.cell0
    have bz_v10 := bz_10.cell1
    have bz_w10 := bz_10.cell2
    have bw_u10 := bw_10.cell0
    have bw_v10 := bw_10.cell1
    have bw_w10 := bw_10.cell2
    go_wp2_with fail
    refine (same_q _ _ _ _ _ _ _ _ _ _ _ _ _ _ x _ xx_10 yy_10 (Nat.le_trans (xx_10.ln x1) k39) (Nat.le_trans (xx_10.ld x2) k39)).mono ?_
    rintro e w11 ⟨rfl, b11⟩
    have h_11 := h_10.below b11
    have xx_11 := xx_10.below b11
    have yy_11 := yy_10.below b11
    have bx_11 := bx_10.below b11 bx_10.lt
    have bz_11 := bz_10.below b11 bz_10.lt
    have bw_11 := bw_10.below b11 bw_10.lt
    have F11 := below_then F10 (Nat.le_refl _) b11
    have bx_u11 := bx_11.cell0
    have bx_v11 := bx_11.cell1
    have bx_w11 := bx_11.cell2
    have bz_u11 := bz_11.cell0
    have bz_v11 := bz_11.cell1
    have bz_w11 := bz_11.cell2
    have bw_u11 := bw_11.cell0
    have bw_v11 := bw_11.cell1
    have bw_w11 := bw_11.cell2
    go_wp2
    go_ret
    exact ⟨rfl, F11⟩
end Go.Proofs.YtjpchbcenbjibaaGreatDoor
