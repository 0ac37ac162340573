/-
  Exact.
-/
import Derived.Test.YthiapkalmmgliaaDoorEi
namespace Go.Proofs.YthiapkalmmgliaaDoor
open Go.RowKit
set_option linter.unusedVariables false
set_option linter.unusedSimpArgs false

/-- The number of a quotient of odd factors. -/
theorem ex_yes {s : Bool} {N D : Nat} {q : Rat} (hD : D ≠ 0) (hq : mkRat (if s = true then -(N : Int) else (N : Int)) D = q) (h : odp N % odp D = 0) :
    dvl s (odp N / odp D) ((tw N : Int) - (tw D : Int)) = q := by
  have h1 : odp N * 2 ^ tw N = N := by
    by_cases h0 : N = 0
    · rw [h0]; rfl
    · exact (odp_tw h0).2
  have h2 := (odp_tw hD).2
  have h3 : odp N / odp D * odp D = odp N := Nat.div_mul_cancel (Nat.dvd_of_mod_eq_zero h)
  obtain ⟨Q, hQ⟩ : ∃ Q, odp N / odp D = Q := ⟨_, rfl⟩
  rw [hQ] at h3 ⊢
  have hDr : ((D : Int) : Rat) ≠ 0 := fun e => hD (by
    have := Rat.intCast_eq_zero_iff.1 e
    omega)
  have e1 : q * ((D : Int) : Rat) = ((if s = true then -(N : Int) else (N : Int) : Int) : Rat) := by
    rw [← hq, Rat.mkRat_eq_div, show ((D : Nat) : Rat) = ((D : Int) : Rat) from (Rat.intCast_natCast D).symm, Rat.div_mul_cancel hDr]
  have e2 : dvl s Q ((tw N : Int) - (tw D : Int)) * ((D : Int) : Rat) = ((if s = true then -(N : Int) else (N : Int) : Int) : Rat) := by
    have e3 : ((D : Int) : Rat) = ((odp D : Int) : Rat) * p2 (tw D : Int) := by
      rw [p2_nat', ← Rat.intCast_mul, ← Int.natCast_mul, h2]
    have e4 : (if s = true then -(N : Int) else (N : Int) : Int) = (if s = true then -(Q : Int) else (Q : Int)) * (odp D : Int) * ((2 ^ tw N : Nat) : Int) := by
      generalize tw N = zN at h1 ⊢
      rw [← h1, ← h3]
      cases s <;> simp [Int.natCast_mul, Int.neg_mul]
    rw [e3, e4, Rat.intCast_mul, Rat.intCast_mul, ← p2_nat']
    unfold dvl
    have e5 : p2 ((tw N : Int) - (tw D : Int)) * p2 (tw D : Int) = p2 (tw N : Int) := by rw [← p2_add]; congr 1; omega
    rw [← e5]
    grind
  rw [← e1] at e2
  have e6 := congrArg (· * (((D : Int) : Rat))⁻¹) e2
  simpa [Rat.mul_assoc, Rat.mul_inv_cancel _ hDr] using e6
theorem ex_no {s : Bool} {N D : Nat} {q : Rat} (hD : D ≠ 0) (hq : mkRat (if s = true then -(N : Int) else (N : Int)) D = q) (h : odp N % odp D ≠ 0) : ¬ Isd q := by
  intro hi
  have h0 : N ≠ 0 := fun e => h (by rw [e]; simp [odp_zero])
  have h1 := odp_tw h0
  have h2 := odp_tw hD
  have e1 : (if s = true then -(N : Int) else (N : Int) : Int) * (q.den : Int) = q.num * (D : Int) := by
    have e2 : mkRat (if s = true then -(N : Int) else (N : Int)) D = mkRat q.num q.den := by rw [hq, Rat.mkRat_self]
    exact (Rat.mkRat_eq_iff hD q.den_nz).1 e2
  have e3 : N * q.den = q.num.natAbs * D := by
    have := congrArg Int.natAbs e1
    rwa [Int.natAbs_mul, Int.natAbs_mul, sgn_abs, Int.natAbs_natCast, Int.natAbs_natCast] at this
  unfold Isd at hi
  have e4 : odp D ∣ odp N * 2 ^ (tw N + q.den.log2) := by
    refine ⟨q.num.natAbs * 2 ^ tw D, ?_⟩
    rw [Nat.pow_add, ← Nat.mul_assoc, h1.2, ← hi, e3]
    conv => lhs; rw [← h2.2]
    rw [Nat.mul_comm, Nat.mul_comm (q.num.natAbs), ← Nat.mul_assoc]
  have e5 : Nat.Coprime (odp D) (2 ^ (tw N + q.den.log2)) := odd_gcd h2.1 _
  exact h (Nat.mod_eq_zero_of_dvd (e5.dvd_of_dvd_mul_right e4))
theorem yexact_q (s : Bool) (A : Option Addr) (n c : Nat) (B : Option Addr) (m d : Nat) (q : Rat) (w : World) (h : Iq w s A n c B m d q) (hn : n ≤ 16) (hm : m ≤ 16) (hi : Isd q) (T : Tb w) :
    Calls Tryd.prog 12 #[.agg #[.bool s, .slice A n c, .slice B m d]] w (GDB w q true) := by
  have hs := h.size hn hm (by omega)
  obtain ⟨xs, ys, hx, hy, hq⟩ := h
  obtain ⟨N, hN⟩ : ∃ N, val xs = N := ⟨_, rfl⟩
  obtain ⟨Y, hY⟩ : ∃ Y, val ys = Y := ⟨_, rfl⟩
  obtain ⟨D, hD⟩ : ∃ D, (if Y = 0 then 1 else Y) = D := ⟨_, rfl⟩
  have hD0 : D ≠ 0 := by rw [← hD]; split <;> omega
  have hq2 : mkRat (if s = true then -(N : Int) else (N : Int)) D = q := by
    rw [← hq, ← hD, ← hY, ← hN]
    rfl
  have h : Nz w A n c 16 N := ⟨hn, xs, hx, hN⟩
  have h2 : Nz w B m d 16 Y := ⟨hm, ys, hy, hY⟩
  obtain ⟨O1, hO1⟩ : ∃ O, odp N = O := ⟨_, rfl⟩
  obtain ⟨O2, hO2⟩ : ∃ O, odp D = O := ⟨_, rfl⟩
  obtain ⟨z1, hz1⟩ : ∃ z, tw N = z := ⟨_, rfl⟩
  obtain ⟨z2, hz2⟩ : ∃ z, tw D = z := ⟨_, rfl⟩
  obtain ⟨Q, hQ⟩ : ∃ Q, O1 / O2 = Q := ⟨_, rfl⟩
  obtain ⟨R, hR⟩ : ∃ R, O1 % O2 = R := ⟨_, rfl⟩
  have hR0 : R = 0 := by
    rw [← hR, ← hO1, ← hO2]
    exact Classical.byContradiction fun hh => ex_no hD0 hq2 hh hi
  have hl1 : z1 ≤ 512 := by
    by_cases h0 : N = 0
    · rw [← hz1, h0]; exact Nat.zero_le _
    · have a1 := h.lt
      rw [pw_pow] at a1
      have := tw_lt a1 h0
      omega
  have hDl : D < pw 16 := by
    have a1 := h2.lt
    rw [← hD]
    split
    · exact Nat.lt_of_lt_of_le (by decide : 1 < pw 1) (pw_mono (by decide))
    · exact a1
  have hl2 : z2 ≤ 512 := by
    have a1 := hDl
    rw [pw_pow] at a1
    have := tw_lt a1 hD0
    omega
  have HQ := hide (show dvl s Q ((z1 : Int) - (z2 : Int)) = q by
    rw [← hQ, ← hO1, ← hO2, ← hz1, ← hz2]
    exact ex_yes hD0 hq2 (by rw [hO1, hO2, hR]; exact hR0))
  have HR2 := hide (show -1048576 ≤ de q ∧ de q ≤ 1048576 by have := de_bd hs; omega)
  have HE := hide (show -1000000000 ≤ (z1 : Int) - (z2 : Int) ∧ (z1 : Int) - (z2 : Int) ≤ 1000000000 by omega)
  have HD := hide hD
  have H1 := hide (And.intro hO1 hz1)
  have H2 := hide (And.intro hO2 hz2)
  have H3 := hide (And.intro hQ hR)
  have H4 := hide (show 0 < O2 by rw [← hO2]; have := (odp_tw hD0).1; omega)
  have H5 := hide (show decide (R = 0) = true by simpa using hR0)
  have k1 : 1 ≤ 16 ∧ 16 ≤ 1048576 := by omega
  have k2 : 16 ≤ 1000000 := by omega
  have k3 : 16 ≤ 65536 := by omega
  clear hs hx hy hq hN hY hD hD0 hq2 hO1 hO2 hz1 hz2 hQ hR hR0 hDl hi
  have h_1 := h.alloc (EQ s A n c B m d)
  have h2_1 := h2.alloc (EQ s A n c B m d)
  have T_1 := T.alloc (EQ s A n c B m d)
  have bx_1 : Sq ((w).alloc (EQ s A n c B m d)) (w.heap.size) (.bool s) (.slice A n c) (.slice B m d) := by have h_ := Sq.new (w) (.bool s) (.slice A n c) (.slice B m d); exact h_
  have F1 := (Below.refl w.heap.size w).alloc (Nat.le_refl _) (EQ s A n c B m d)
  have h_2 := h_1.alloc EY0
  have h2_2 := h2_1.alloc EY0
  have T_2 := T_1.alloc EY0
  have bx_2 := bx_1.alloc EY0
  have br_2 : Sy (((w).alloc (EQ s A n c B m d)).alloc EY0) (w.heap.size + 1) (.bool false) (.slice none 0 0) (.int .i64 0) := by have h_ := Sy.new ((w).alloc (EQ s A n c B m d)) (.bool false) (.slice none 0 0) (.int .i64 0); simp only [World.size_alloc] at h_; exact h_
  have F2 := F1.alloc F1.size EY0
  go_enter Tryd.func12, Tryd.ntmps12
  have bx_u2 := bx_2.cell0
  have bx_v2 := bx_2.cell1
  have bx_w2 := bx_2.cell2
  have br_u2 := br_2.cell0
  have br_v2 := br_2.cell1
  have br_w2 := br_2.cell2
  go_wp2_with fail
  refine (parts_n _ _ _ _ _ _ _ 16 16 N Y D _ HD.out h_2 h2_2 k1).mono ?_
  rintro e w3 ⟨A3, n3, c3, B3, m3, d3, rfl, num, den, b3⟩
  have h_3 := h_2.below b3
  have h2_3 := h2_2.below b3
  have T_3 := T_2.below b3
  have bx_3 := bx_2.below b3 bx_2.lt
  have br_3 := br_2.below b3 br_2.lt
  have F3 := below_then F2 (Nat.le_refl _) b3
  have bx_u3 := bx_3.cell0
  have bx_v3 := bx_3.cell1
  have bx_w3 := bx_3.cell2
  have br_u3 := br_3.cell0
  have br_v3 := br_3.cell1
  have br_w3 := br_3.cell2
  go_wp2_with fail
  refine (odd_n _ _ _ _ N O1 z1 _ H1.out.1 H1.out.2 num k2 T_3).mono ?_
  rintro e w4 ⟨A4, n4, c4, rfl, o1, b4⟩
  have T_4 := T_3.below b4
  have num_4 := num.below b4
  have den_4 := den.below b4
  have bx_4 := bx_3.below b4 bx_3.lt
  have br_4 := br_3.below b4 br_3.lt
  have F4 := below_then F3 (Nat.le_refl _) b4
  have bx_u4 := bx_4.cell0
  have bx_v4 := bx_4.cell1
  have bx_w4 := bx_4.cell2
  have br_u4 := br_4.cell0
  have br_v4 := br_4.cell1
  have br_w4 := br_4.cell2
  go_wp2_with fail
  refine (odd_n _ _ _ _ D O2 z2 _ H2.out.1 H2.out.2 den_4 k2 T_4).mono ?_
  rintro e w5 ⟨A5, n5, c5, rfl, o2, b5⟩
  have T_5 := T_4.below b5
  have den_5 := den_4.below b5
  have o1_5 := o1.below b5
  have bx_5 := bx_4.below b5 bx_4.lt
  have br_5 := br_4.below b5 br_4.lt
  have F5 := below_then F4 (Nat.le_refl _) b5
  have bx_u5 := bx_5.cell0
  have bx_v5 := bx_5.cell1
  have bx_w5 := bx_5.cell2
  have br_u5 := br_5.cell0
  have br_v5 := br_5.cell1
  have br_w5 := br_5.cell2
  go_wp2_with fail
  refine (div_n _ _ _ _ _ _ _ _ _ _ Q R _ H3.out.1 H3.out.2 H4.out o1_5.nz o2.nz k3 k3).mono ?_
  rintro e w6 ⟨A6, n6, c6, B6, m6, d6, rfl, qq, rr, b6⟩
  have T_6 := T_5.below b6
  have o1_6 := o1_5.below b6
  have o2_6 := o2.below b6
  have bx_6 := bx_5.below b6 bx_5.lt
  have br_6 := br_5.below b6 br_5.lt
  have F6 := below_then F5 (Nat.le_refl _) b6
  have bx_u6 := bx_6.cell0
  have bx_v6 := bx_6.cell1
  have bx_w6 := bx_6.cell2
  have br_u6 := br_6.cell0
  have br_v6 := br_6.cell1
  have br_w6 := br_6.cell2
  have e0 := rr.len0 H5.out
  have e1 : decide (0 < (m6 : Int)) = false := by have e9 := e0; simp at e9; simp; omega
  have e2 : decide (0 < m6) = false := by have e9 := e0; simp at e9; simp; omega
  have e3 : ¬ 0 < m6 := by have e9 := e0; simp at e9; omega
  clear e0
  go_wp2_with fail
  refine (can_q _ _ _ _ 16 Q _ q _ qq.nz k2 (by first | exact HQ.out | (have := HQ.out; go_num)) HE.out HR2.out T_6).mono ?_
  rintro e w7 ⟨s7, A7, n7, c7, x7, rfl, y, b7⟩
  have T_7 := T_6.below b7
  have qq_7 := qq.below b7
  have bx_7 := bx_6.below b7 bx_6.lt
  have br_7 := br_6.below b7 br_6.lt
  have F7 := below_then F6 (Nat.le_refl _) b7
  have bx_u7 := bx_7.cell0
  have bx_v7 := bx_7.cell1
  have bx_w7 := bx_7.cell2
  have br_u7 := br_7.cell0
  have br_v7 := br_7.cell1
  have br_w7 := br_7.cell2
  have br_f07 := br_7.frozen 0
  have br_f17 := br_7.frozen 1
  have br_f27 := br_7.frozen 2
  go_wp2_with fail
  refine bodyPost_ret (v := .tuple #[.agg #[.bool s7, .slice A7 n7 c7, .int .i64 x7], .bool true]) (by simp [results, Tryd.results12, go_sem, (br_7.set0 (.bool s7)).cell0, ((br_7.set0 (.bool s7)).set1 (.slice A7 n7 c7)).cell1, (((br_7.set0 (.bool s7)).set1 (.slice A7 n7 c7)).set2 (.int .i64 x7)).cell2]) rfl (gdb_end true F7 (by omega) br_7 y)
theorem yexact_n (s : Bool) (A : Option Addr) (n c : Nat) (B : Option Addr) (m d : Nat) (q : Rat) (w : World) (h : Iq w s A n c B m d q) (hn : n ≤ 16) (hm : m ≤ 16) (hi : ¬ Isd q) (T : Tb w) :
    Calls Tryd.prog 12 #[.agg #[.bool s, .slice A n c, .slice B m d]] w (GDB w 0 false) := by
  have hs := h.size hn hm (by omega)
  obtain ⟨xs, ys, hx, hy, hq⟩ := h
  obtain ⟨N, hN⟩ : ∃ N, val xs = N := ⟨_, rfl⟩
  obtain ⟨Y, hY⟩ : ∃ Y, val ys = Y := ⟨_, rfl⟩
  obtain ⟨D, hD⟩ : ∃ D, (if Y = 0 then 1 else Y) = D := ⟨_, rfl⟩
  have hD0 : D ≠ 0 := by rw [← hD]; split <;> omega
  have hq2 : mkRat (if s = true then -(N : Int) else (N : Int)) D = q := by
    rw [← hq, ← hD, ← hY, ← hN]
    rfl
  have h : Nz w A n c 16 N := ⟨hn, xs, hx, hN⟩
  have h2 : Nz w B m d 16 Y := ⟨hm, ys, hy, hY⟩
  obtain ⟨O1, hO1⟩ : ∃ O, odp N = O := ⟨_, rfl⟩
  obtain ⟨O2, hO2⟩ : ∃ O, odp D = O := ⟨_, rfl⟩
  obtain ⟨z1, hz1⟩ : ∃ z, tw N = z := ⟨_, rfl⟩
  obtain ⟨z2, hz2⟩ : ∃ z, tw D = z := ⟨_, rfl⟩
  obtain ⟨Q, hQ⟩ : ∃ Q, O1 / O2 = Q := ⟨_, rfl⟩
  obtain ⟨R, hR⟩ : ∃ R, O1 % O2 = R := ⟨_, rfl⟩
  have hR0 : R ≠ 0 := by
    rw [← hR, ← hO1, ← hO2]
    intro hh; exact hi (by rw [← ex_yes hD0 hq2 hh]; exact dvl_isd _ _ _)
  have hl1 : z1 ≤ 512 := by
    by_cases h0 : N = 0
    · rw [← hz1, h0]; exact Nat.zero_le _
    · have a1 := h.lt
      rw [pw_pow] at a1
      have := tw_lt a1 h0
      omega
  have hDl : D < pw 16 := by
    have a1 := h2.lt
    rw [← hD]
    split
    · exact Nat.lt_of_lt_of_le (by decide : 1 < pw 1) (pw_mono (by decide))
    · exact a1
  have hl2 : z2 ≤ 512 := by
    have a1 := hDl
    rw [pw_pow] at a1
    have := tw_lt a1 hD0
    omega
  have HE := hide (show -1000000000 ≤ (z1 : Int) - (z2 : Int) ∧ (z1 : Int) - (z2 : Int) ≤ 1000000000 by omega)
  have HD := hide hD
  have H1 := hide (And.intro hO1 hz1)
  have H2 := hide (And.intro hO2 hz2)
  have H3 := hide (And.intro hQ hR)
  have H4 := hide (show 0 < O2 by rw [← hO2]; have := (odp_tw hD0).1; omega)
  have H5 := hide (show decide (R = 0) = false by simpa using hR0)
  have k1 : 1 ≤ 16 ∧ 16 ≤ 1048576 := by omega
  have k2 : 16 ≤ 1000000 := by omega
  have k3 : 16 ≤ 65536 := by omega
  clear hs hx hy hq hN hY hD hD0 hq2 hO1 hO2 hz1 hz2 hQ hR hR0 hDl hi
  have h_1 := h.alloc (EQ s A n c B m d)
  have h2_1 := h2.alloc (EQ s A n c B m d)
  have T_1 := T.alloc (EQ s A n c B m d)
  have bx_1 : Sq ((w).alloc (EQ s A n c B m d)) (w.heap.size) (.bool s) (.slice A n c) (.slice B m d) := by have h_ := Sq.new (w) (.bool s) (.slice A n c) (.slice B m d); exact h_
  have F1 := (Below.refl w.heap.size w).alloc (Nat.le_refl _) (EQ s A n c B m d)
  have h_2 := h_1.alloc EY0
  have h2_2 := h2_1.alloc EY0
  have T_2 := T_1.alloc EY0
  have bx_2 := bx_1.alloc EY0
  have br_2 : Sy (((w).alloc (EQ s A n c B m d)).alloc EY0) (w.heap.size + 1) (.bool false) (.slice none 0 0) (.int .i64 0) := by have h_ := Sy.new ((w).alloc (EQ s A n c B m d)) (.bool false) (.slice none 0 0) (.int .i64 0); simp only [World.size_alloc] at h_; exact h_
  have F2 := F1.alloc F1.size EY0
  go_enter Tryd.func12, Tryd.ntmps12
  have bx_u2 := bx_2.cell0
  have bx_v2 := bx_2.cell1
  have bx_w2 := bx_2.cell2
  have br_u2 := br_2.cell0
  have br_v2 := br_2.cell1
  have br_w2 := br_2.cell2
  go_wp2_with fail
  refine (parts_n _ _ _ _ _ _ _ 16 16 N Y D _ HD.out h_2 h2_2 k1).mono ?_
  rintro e w3 ⟨A3, n3, c3, B3, m3, d3, rfl, num, den, b3⟩
  have h_3 := h_2.below b3
  have h2_3 := h2_2.below b3
  have T_3 := T_2.below b3
  have bx_3 := bx_2.below b3 bx_2.lt
  have br_3 := br_2.below b3 br_2.lt
  have F3 := below_then F2 (Nat.le_refl _) b3
  have bx_u3 := bx_3.cell0
  have bx_v3 := bx_3.cell1
  have bx_w3 := bx_3.cell2
  have br_u3 := br_3.cell0
  have br_v3 := br_3.cell1
  have br_w3 := br_3.cell2
  go_wp2_with fail
  refine (odd_n _ _ _ _ N O1 z1 _ H1.out.1 H1.out.2 num k2 T_3).mono ?_
  rintro e w4 ⟨A4, n4, c4, rfl, o1, b4⟩
  have T_4 := T_3.below b4
  have num_4 := num.below b4
  have den_4 := den.below b4
  have bx_4 := bx_3.below b4 bx_3.lt
  have br_4 := br_3.below b4 br_3.lt
  have F4 := below_then F3 (Nat.le_refl _) b4
  have bx_u4 := bx_4.cell0
  have bx_v4 := bx_4.cell1
  have bx_w4 := bx_4.cell2
  have br_u4 := br_4.cell0
  have br_v4 := br_4.cell1
  have br_w4 := br_4.cell2
  go_wp2_with fail
  refine (odd_n _ _ _ _ D O2 z2 _ H2.out.1 H2.out.2 den_4 k2 T_4).mono ?_
  rintro e w5 ⟨A5, n5, c5, rfl, o2, b5⟩
  have T_5 := T_4.below b5
  have den_5 := den_4.below b5
  have o1_5 := o1.below b5
  have bx_5 := bx_4.below b5 bx_4.lt
  have br_5 := br_4.below b5 br_4.lt
  have F5 := below_then F4 (Nat.le_refl _) b5
  have bx_u5 := bx_5.cell0
  have bx_v5 := bx_5.cell1
  have bx_w5 := bx_5.cell2
  have br_u5 := br_5.cell0
  have br_v5 := br_5.cell1
  have br_w5 := br_5.cell2
  go_wp2_with fail
  refine (div_n _ _ _ _ _ _ _ _ _ _ Q R _ H3.out.1 H3.out.2 H4.out o1_5.nz o2.nz k3 k3).mono ?_
  rintro e w6 ⟨A6, n6, c6, B6, m6, d6, rfl, qq, rr, b6⟩
  have T_6 := T_5.below b6
  have o1_6 := o1_5.below b6
  have o2_6 := o2.below b6
  have bx_6 := bx_5.below b6 bx_5.lt
  have br_6 := br_5.below b6 br_5.lt
  have F6 := below_then F5 (Nat.le_refl _) b6
  have bx_u6 := bx_6.cell0
  have bx_v6 := bx_6.cell1
  have bx_w6 := bx_6.cell2
  have br_u6 := br_6.cell0
  have br_v6 := br_6.cell1
  have br_w6 := br_6.cell2
  have e0 := rr.len0 H5.out
  have e1 : decide (0 < (m6 : Int)) = true := by have e9 := e0; simp at e9; simp; omega
  have e2 : decide (0 < m6) = true := by have e9 := e0; simp at e9; simp; omega
  have e3 : 0 < m6 := by have e9 := e0; simp at e9; omega
  clear e0
  have br_f06 := br_6.frozen 0
  have br_f16 := br_6.frozen 1
  have br_f26 := br_6.frozen 2
  go_wp2_with fail
  refine bodyPost_ret (v := .tuple #[.agg #[.bool false, .slice none 0 0, .int .i64 0], .bool false]) (by simp [results, Tryd.results12, go_sem, (br_6.set0 (.bool false)).cell0, ((br_6.set0 (.bool false)).set1 (.slice none 0 0)).cell1, (((br_6.set0 (.bool false)).set1 (.slice none 0 0)).set2 (.int .i64 0)).cell2]) rfl (gdb_end false F6 (by omega) br_6 (cy_zero _))
end Go.Proofs.YthiapkalmmgliaaDoor
