/-
  The walk of DyadicExact.
-/
import Derived.Test.YthiapkalmmgliaaDoorL7
namespace Go.Proofs.YthiapkalmmgliaaDoor
open Go.RowKit
set_option linter.unusedVariables false
set_option linter.unusedSimpArgs false

theorem cy_small {w : World} {s : Bool} {A : Option Addr} {n c : Nat} {e : Int} {q : Rat} {k : Nat} (h : Cy w s A n c e q) (hq : Qs k q) : n ≤ k ∧ (-(32 * k : Int) ≤ e ∧ e ≤ 32 * k) := by
  refine ⟨h.ln (Nat.lt_of_le_of_lt (odp_le _) hq.1), ?_⟩
  rw [h.2.2.1]
  exact de_bd hq
theorem qs_zero (k : Nat) (hk : 1 ≤ k) : Qs k 0 := by
  have h : pw 1 ≤ pw k := pw_mono hk
  have h1 : 1 < pw 1 := by decide
  exact ⟨Nat.lt_of_lt_of_le (Nat.lt_trans (by decide) h1) h, Nat.lt_of_lt_of_le h1 h⟩
theorem de_no (s : Bool) (A : Option Addr) (n c : Nat) (B : Option Addr) (m d : Nat) (w : World) (h : ¬ (n ≤ 3 ∧ m ≤ 3)) (T : Tb w) : Calls Tryd.prog 3 #[.agg #[.bool s, .slice A n c, .slice B m d]] w (fun e w' => e = .returned (.bool true) ∧ Below w.heap.size w w') := by
  have HN := hide h
  clear h
  have T_1 := T.alloc (EQ s A n c B m d)
  have bx_1 : Sq ((w).alloc (EQ s A n c B m d)) (w.heap.size) (.bool s) (.slice A n c) (.slice B m d) := by have h_ := Sq.new (w) (.bool s) (.slice A n c) (.slice B m d); exact h_
  have F1 := (Below.refl w.heap.size w).alloc (Nat.le_refl _) (EQ s A n c B m d)
  go_enter Tryd.func3, Tryd.ntmps3
  go_wp2_with fail
  refine (awake5 _ T_1).mono ?_
  rintro e w2 ⟨rfl, b2⟩
  have T_2 := T_1.below b2
  have bx_2 := bx_1.below b2 bx_1.lt
  have F2 := below_then F1 (Nat.le_refl _) b2
  have bx_u2 := bx_2.cell0
  have bx_v2 := bx_2.cell1
  have bx_w2 := bx_2.cell2
  go_wp2_with fail
  refine (few_no _ _ _ _ _ _ _ _ HN.out).mono ?_
  rintro e w3 ⟨rfl, b3⟩
  have T_3 := T_2.below b3
  have bx_3 := bx_2.below b3 bx_2.lt
  have F3 := below_then F2 (Nat.le_refl _) b3
  have bx_u3 := bx_3.cell0
  have bx_v3 := bx_3.cell1
  have bx_w3 := bx_3.cell2
  go_wp2
  go_ret
  exact ⟨rfl, F3⟩
theorem de_yes (s : Bool) (A : Option Addr) (n c : Nat) (B : Option Addr) (m d : Nat) (q : Rat) (w : World) (h : Iq w s A n c B m d q) (hn : n ≤ 3) (hm : m ≤ 3) (hi : Isd q) (T : Tb w) : Calls Tryd.prog 3 #[.agg #[.bool s, .slice A n c, .slice B m d]] w (fun e w' => e = .returned (.bool true) ∧ Below w.heap.size w w') := by
  have HI := hide hi
  have n1 : n ≤ 16 := by omega
  have m1 : m ≤ 16 := by omega
  have n2 : n ≤ 8000 := by omega
  have m2 : m ≤ 8000 := by omega
  have n3 : n ≤ 16384 := by omega
  have m3 : m ≤ 16384 := by omega
  have hs : Qs 3 q := h.size hn hm (by omega)
  have hs1 : q.num.natAbs < pw 3 := hs.1
  have hs2 : q.den < pw 3 := hs.2
  have k16 : 3 ≤ 1048576 := by omega
  have k15 : 3 ≤ 16384 := by omega
  clear hi
  have h_1 := h.alloc (EQ s A n c B m d)
  have T_1 := T.alloc (EQ s A n c B m d)
  have bx_1 : Sq ((w).alloc (EQ s A n c B m d)) (w.heap.size) (.bool s) (.slice A n c) (.slice B m d) := by have h_ := Sq.new (w) (.bool s) (.slice A n c) (.slice B m d); exact h_
  have F1 := (Below.refl w.heap.size w).alloc (Nat.le_refl _) (EQ s A n c B m d)
  go_enter Tryd.func3, Tryd.ntmps3
  go_wp2_with fail
  refine (awake5 _ T_1).mono ?_
  rintro e w2 ⟨rfl, b2⟩
  have h_2 := h_1.below b2
  have T_2 := T_1.below b2
  have bx_2 := bx_1.below b2 bx_1.lt
  have F2 := below_then F1 (Nat.le_refl _) b2
  have bx_u2 := bx_2.cell0
  have bx_v2 := bx_2.cell1
  have bx_w2 := bx_2.cell2
  go_wp2_with fail
  refine (few_yes _ _ _ _ _ _ _ _ hn hm).mono ?_
  rintro e w3 ⟨rfl, b3⟩
  have h_3 := h_2.below b3
  have T_3 := T_2.below b3
  have bx_3 := bx_2.below b3 bx_2.lt
  have F3 := below_then F2 (Nat.le_refl _) b3
  have bx_u3 := bx_3.cell0
  have bx_v3 := bx_3.cell1
  have bx_w3 := bx_3.cell2
  go_wp2_with fail
  refine (yexact_q _ _ _ _ _ _ _ q _ h_3 n1 m1 HI.out T_3).mono ?_
  rintro e w4 ⟨s4, A4, n4, c4, x4, rfl, yd, b4⟩
  have h_4 := h_3.below b4
  have T_4 := T_3.below b4
  have bx_4 := bx_3.below b4 bx_3.lt
  have F4 := below_then F3 (Nat.le_refl _) b4
  have bx_u4 := bx_4.cell0
  have bx_v4 := bx_4.cell1
  have bx_w4 := bx_4.cell2
  have lt_bd_bx := bx_4.lt
  have h_5 := h_4.alloc (EY s4 A4 n4 c4 x4)
  have T_5 := T_4.alloc (EY s4 A4 n4 c4 x4)
  have yd_5 := yd.alloc (EY s4 A4 n4 c4 x4)
  have bx_5 := bx_4.alloc (EY s4 A4 n4 c4 x4)
  have bd_5 : Sy ((w4).alloc (EY s4 A4 n4 c4 x4)) (w4.heap.size) (.bool s4) (.slice A4 n4 c4) (.int .i64 x4) := by have h_ := Sy.new (w4) (.bool s4) (.slice A4 n4 c4) (.int .i64 x4); exact h_
  have F5 := F4.alloc F4.size (EY s4 A4 n4 c4 x4)
  have bx_u5 := bx_5.cell0
  have bx_v5 := bx_5.cell1
  have bx_w5 := bx_5.cell2
  have bd_u5 := bd_5.cell0
  have bd_v5 := bd_5.cell1
  have bd_w5 := bd_5.cell2
  go_wp2_with fail
  refine (ryexact _ _ _ _ _ _ _ q _ h_5 n2 m2 HI.out).mono ?_
  rintro e w6 ⟨s6, A6, n6, c6, x6, rfl, yy, b6⟩
  have h_6 := h_5.below b6
  have yd_6 := yd_5.below b6
  have bx_6 := bx_5.below b6 bx_5.lt
  have bd_6 := bd_5.below b6 bd_5.lt
  have F6 := below_then F5 (Nat.le_refl _) b6
  have bx_u6 := bx_6.cell0
  have bx_v6 := bx_6.cell1
  have bx_w6 := bx_6.cell2
  have bd_u6 := bd_6.cell0
  have bd_v6 := bd_6.cell1
  have bd_w6 := bd_6.cell2
  have lt_by_bx := bx_6.lt
  have lt_by_bd := bd_6.lt
  have h_7 := h_6.alloc (EY s6 A6 n6 c6 x6)
  have yd_7 := yd_6.alloc (EY s6 A6 n6 c6 x6)
  have yy_7 := yy.alloc (EY s6 A6 n6 c6 x6)
  have bx_7 := bx_6.alloc (EY s6 A6 n6 c6 x6)
  have bd_7 := bd_6.alloc (EY s6 A6 n6 c6 x6)
  have by_7 : Sy ((w6).alloc (EY s6 A6 n6 c6 x6)) (w6.heap.size) (.bool s6) (.slice A6 n6 c6) (.int .i64 x6) := by have h_ := Sy.new (w6) (.bool s6) (.slice A6 n6 c6) (.int .i64 x6); exact h_
  have F7 := F6.alloc F6.size (EY s6 A6 n6 c6 x6)
  have bx_u7 := bx_7.cell0
  have bx_v7 := bx_7.cell1
  have bx_w7 := bx_7.cell2
  have bd_u7 := bd_7.cell0
  have bd_v7 := bd_7.cell1
  have bd_w7 := bd_7.cell2
  have by_u7 := by_7.cell0
  have by_v7 := by_7.cell1
  have by_w7 := by_7.cell2
  have zd := cy_small yd_7 hs
  have zy := cy_small yy_7 hs
  have zd1 := Nat.le_trans zd.1 k16
  have zy1 := Nat.le_trans zy.1 k16
  go_wp2_with fail
  refine (rysame_q _ _ _ _ _ _ _ _ _ _ q _ yd_7 yy_7 zd1 zy1).mono ?_
  rintro e w8 ⟨rfl, b8⟩
  have h_8 := h_7.below b8
  have yd_8 := yd_7.below b8
  have yy_8 := yy_7.below b8
  have bx_8 := bx_7.below b8 bx_7.lt
  have bd_8 := bd_7.below b8 bd_7.lt
  have by_8 := by_7.below b8 by_7.lt
  have F8 := below_then F7 (Nat.le_refl _) b8
  have bx_u8 := bx_8.cell0
  have bx_v8 := bx_8.cell1
  have bx_w8 := bx_8.cell2
  have bd_u8 := bd_8.cell0
  have bd_v8 := bd_8.cell1
  have bd_w8 := bd_8.cell2
  have by_u8 := by_8.cell0
  have by_v8 := by_8.cell1
  have by_w8 := by_8.cell2
  have nd4 : n4 ≤ 100 := Nat.le_trans zd.1 (by decide)
  have HE := hide (show -200 ≤ x4 ∧ x4 ≤ 200 by have := zd.2; omega)
  have HE2 := hide (show -1048576 ≤ x4 ∧ x4 ≤ 1048576 by have := zd.2; omega)
  have nd3 := zd.1
  clear zd zy zd1 zy1
  go_wp2_with fail
  have h_9 := h_8.drew
  have yd_9 := yd_8.drew
  have bx_9 := bx_8.drew
  have bd_9 := bd_8.drew
  have F9 := F8.drew
  go_region_held3 (fun w' => w'.cell? ⟨w.heap.size, 0, none⟩ = some (.bool s) ∧ w'.cell? ⟨w.heap.size, 1, none⟩ = some (.slice A n c) ∧ w'.cell? ⟨w.heap.size, 2, none⟩ = some (.slice B m d) ∧ w'.cell? ⟨w4.heap.size, 0, none⟩ = some (.bool s4) ∧ w'.cell? ⟨w4.heap.size, 1, none⟩ = some (.slice A4 n4 c4) ∧ w'.cell? ⟨w4.heap.size, 2, none⟩ = some (.int .i64 x4))
    (first
      | with_reducible exact ⟨bx_13.cell0, bx_13.cell1, bx_13.cell2, bd_13.cell0, bd_13.cell1, bd_13.cell2⟩
      | with_reducible exact ⟨bx_12.cell0, bx_12.cell1, bx_12.cell2, bd_12.cell0, bd_12.cell1, bd_12.cell2⟩
      | with_reducible exact ⟨bx_11.cell0, bx_11.cell1, bx_11.cell2, bd_11.cell0, bd_11.cell1, bd_11.cell2⟩
      | with_reducible exact ⟨bx_10.cell0, bx_10.cell1, bx_10.cell2, bd_10.cell0, bd_10.cell1, bd_10.cell2⟩
      | with_reducible exact ⟨bx_9.cell0, bx_9.cell1, bx_9.cell2, bd_9.cell0, bd_9.cell1, bd_9.cell2⟩
      | fail)
    (first
      | (go_at_call 15; (with_reducible refine (yvalid_at _ _ _ _ _ _ true _ (cy_vb yd_9 HE2.out) yd_9.rd nd4).mono ?_); rintro e w10 ⟨rfl, b10⟩; have h_10 := h_9.below b10; have yd_10 := yd_9.below b10; have bx_10 := bx_9.below b10 bx_9.lt; have bd_10 := bd_9.below b10 bd_9.lt; have F10 := below_then F9 (Nat.le_refl _) b10)
      | (go_at_call 17; (with_reducible refine (yrat_q _ _ _ _ _ q _ yd_10 nd3 HE.out).mono ?_); rintro e w11 ⟨s11, A11, n11, c11, B11, m11, d11, rfl, rr, b11⟩; have h_11 := h_10.below b11; have yd_11 := yd_10.below b11; have bx_11 := bx_10.below b11 bx_10.lt; have bd_11 := bd_10.below b11 bd_10.lt; have F11 := below_then F10 (Nat.le_refl _) b11)
      | (go_at_call 18; (with_reducible refine (rcanon_q _ _ _ _ _ _ _ q _ h_11 n3 m3).mono ?_); rintro e w12 ⟨s12, A12, n12, c12, B12, m12, d12, rfl, cx, b12⟩; have h_12 := h_11.below b12; have yd_12 := yd_11.below b12; have rr_12 := rr.below b12; have bx_12 := bx_11.below b12 bx_11.lt; have bd_12 := bd_11.below b12 bd_11.lt; have F12 := below_then F11 (Nat.le_refl _) b12)
      | (go_at_call 16; (with_reducible refine (same_q _ _ _ _ _ _ _ _ _ _ _ _ _ _ q _ rr_12 cx (Nat.le_trans (rr_12.ln hs1) k15) (Nat.le_trans (rr_12.ld hs2) k15)).mono ?_); rintro e w13 ⟨rfl, b13⟩; have h_13 := h_12.below b13; have yd_13 := yd_12.below b13; have rr_13 := rr_12.below b13; have cx_13 := cx.below b13; have bx_13 := bx_12.below b13 bx_12.lt; have bd_13 := bd_12.below b13 bd_12.lt; have F13 := below_then F12 (Nat.le_refl _) b13)
      | fail)
  have bx_u13 := bx_13.cell0
  have bx_v13 := bx_13.cell1
  have bx_w13 := bx_13.cell2
  have bd_u13 := bd_13.cell0
  have bd_v13 := bd_13.cell1
  have bd_w13 := bd_13.cell2
  go_wp2
  go_ret
  exact ⟨rfl, F13⟩
theorem de_not (s : Bool) (A : Option Addr) (n c : Nat) (B : Option Addr) (m d : Nat) (q : Rat) (w : World) (h : Iq w s A n c B m d q) (hn : n ≤ 3) (hm : m ≤ 3) (hi : ¬ Isd q) (T : Tb w) : Calls Tryd.prog 3 #[.agg #[.bool s, .slice A n c, .slice B m d]] w (fun e w' => e = .returned (.bool true) ∧ Below w.heap.size w w') := by
  have HI := hide hi
  have n1 : n ≤ 16 := by omega
  have m1 : m ≤ 16 := by omega
  have n2 : n ≤ 8000 := by omega
  have m2 : m ≤ 8000 := by omega
  have n3 : n ≤ 16384 := by omega
  have m3 : m ≤ 16384 := by omega
  have hs : Qs 3 q := h.size hn hm (by omega)
  have hs1 : q.num.natAbs < pw 3 := hs.1
  have hs2 : q.den < pw 3 := hs.2
  have k16 : 3 ≤ 1048576 := by omega
  have k15 : 3 ≤ 16384 := by omega
  clear hi
  have h_1 := h.alloc (EQ s A n c B m d)
  have T_1 := T.alloc (EQ s A n c B m d)
  have bx_1 : Sq ((w).alloc (EQ s A n c B m d)) (w.heap.size) (.bool s) (.slice A n c) (.slice B m d) := by have h_ := Sq.new (w) (.bool s) (.slice A n c) (.slice B m d); exact h_
  have F1 := (Below.refl w.heap.size w).alloc (Nat.le_refl _) (EQ s A n c B m d)
  go_enter Tryd.func3, Tryd.ntmps3
  go_wp2_with fail
  refine (awake5 _ T_1).mono ?_
  rintro e w2 ⟨rfl, b2⟩
  have h_2 := h_1.below b2
  have T_2 := T_1.below b2
  have bx_2 := bx_1.below b2 bx_1.lt
  have F2 := below_then F1 (Nat.le_refl _) b2
  have bx_u2 := bx_2.cell0
  have bx_v2 := bx_2.cell1
  have bx_w2 := bx_2.cell2
  go_wp2_with fail
  refine (few_yes _ _ _ _ _ _ _ _ hn hm).mono ?_
  rintro e w3 ⟨rfl, b3⟩
  have h_3 := h_2.below b3
  have T_3 := T_2.below b3
  have bx_3 := bx_2.below b3 bx_2.lt
  have F3 := below_then F2 (Nat.le_refl _) b3
  have bx_u3 := bx_3.cell0
  have bx_v3 := bx_3.cell1
  have bx_w3 := bx_3.cell2
  go_wp2_with fail
  refine (yexact_n _ _ _ _ _ _ _ q _ h_3 n1 m1 HI.out T_3).mono ?_
  rintro e w4 ⟨s4, A4, n4, c4, x4, rfl, yd, b4⟩
  have h_4 := h_3.below b4
  have T_4 := T_3.below b4
  have bx_4 := bx_3.below b4 bx_3.lt
  have F4 := below_then F3 (Nat.le_refl _) b4
  have bx_u4 := bx_4.cell0
  have bx_v4 := bx_4.cell1
  have bx_w4 := bx_4.cell2
  have lt_bd_bx := bx_4.lt
  have h_5 := h_4.alloc (EY s4 A4 n4 c4 x4)
  have T_5 := T_4.alloc (EY s4 A4 n4 c4 x4)
  have yd_5 := yd.alloc (EY s4 A4 n4 c4 x4)
  have bx_5 := bx_4.alloc (EY s4 A4 n4 c4 x4)
  have bd_5 : Sy ((w4).alloc (EY s4 A4 n4 c4 x4)) (w4.heap.size) (.bool s4) (.slice A4 n4 c4) (.int .i64 x4) := by have h_ := Sy.new (w4) (.bool s4) (.slice A4 n4 c4) (.int .i64 x4); exact h_
  have F5 := F4.alloc F4.size (EY s4 A4 n4 c4 x4)
  have bx_u5 := bx_5.cell0
  have bx_v5 := bx_5.cell1
  have bx_w5 := bx_5.cell2
  have bd_u5 := bd_5.cell0
  have bd_v5 := bd_5.cell1
  have bd_w5 := bd_5.cell2
  go_wp2_with fail
  refine (ryexact_not _ _ _ _ _ _ _ q _ h_5 n2 m2 HI.out).mono ?_
  rintro e w6 ⟨s6, A6, n6, c6, x6, rfl, yy, b6⟩
  have h_6 := h_5.below b6
  have yd_6 := yd_5.below b6
  have bx_6 := bx_5.below b6 bx_5.lt
  have bd_6 := bd_5.below b6 bd_5.lt
  have F6 := below_then F5 (Nat.le_refl _) b6
  have bx_u6 := bx_6.cell0
  have bx_v6 := bx_6.cell1
  have bx_w6 := bx_6.cell2
  have bd_u6 := bd_6.cell0
  have bd_v6 := bd_6.cell1
  have bd_w6 := bd_6.cell2
  have lt_by_bx := bx_6.lt
  have lt_by_bd := bd_6.lt
  have h_7 := h_6.alloc (EY s6 A6 n6 c6 x6)
  have yd_7 := yd_6.alloc (EY s6 A6 n6 c6 x6)
  have yy_7 := yy.alloc (EY s6 A6 n6 c6 x6)
  have bx_7 := bx_6.alloc (EY s6 A6 n6 c6 x6)
  have bd_7 := bd_6.alloc (EY s6 A6 n6 c6 x6)
  have by_7 : Sy ((w6).alloc (EY s6 A6 n6 c6 x6)) (w6.heap.size) (.bool s6) (.slice A6 n6 c6) (.int .i64 x6) := by have h_ := Sy.new (w6) (.bool s6) (.slice A6 n6 c6) (.int .i64 x6); exact h_
  have F7 := F6.alloc F6.size (EY s6 A6 n6 c6 x6)
  have bx_u7 := bx_7.cell0
  have bx_v7 := bx_7.cell1
  have bx_w7 := bx_7.cell2
  have bd_u7 := bd_7.cell0
  have bd_v7 := bd_7.cell1
  have bd_w7 := bd_7.cell2
  have by_u7 := by_7.cell0
  have by_v7 := by_7.cell1
  have by_w7 := by_7.cell2
  have zd := cy_small yd_7 (qs_zero 3 (by decide))
  have zy := cy_small yy_7 (qs_zero 3 (by decide))
  have zd1 := Nat.le_trans zd.1 k16
  have zy1 := Nat.le_trans zy.1 k16
  go_wp2_with fail
  refine (rysame_q _ _ _ _ _ _ _ _ _ _ 0 _ yd_7 yy_7 zd1 zy1).mono ?_
  rintro e w8 ⟨rfl, b8⟩
  have h_8 := h_7.below b8
  have yd_8 := yd_7.below b8
  have yy_8 := yy_7.below b8
  have bx_8 := bx_7.below b8 bx_7.lt
  have bd_8 := bd_7.below b8 bd_7.lt
  have by_8 := by_7.below b8 by_7.lt
  have F8 := below_then F7 (Nat.le_refl _) b8
  have bx_u8 := bx_8.cell0
  have bx_v8 := bx_8.cell1
  have bx_w8 := bx_8.cell2
  have bd_u8 := bd_8.cell0
  have bd_v8 := bd_8.cell1
  have bd_w8 := bd_8.cell2
  have by_u8 := by_8.cell0
  have by_v8 := by_8.cell1
  have by_w8 := by_8.cell2
  go_wp2_with fail
  go_quiet (fail)
  go_wp2
  go_ret
  exact ⟨rfl, below_drewN F8 _⟩
theorem law_exact (s : Bool) (A : Option Addr) (n c : Nat) (B : Option Addr) (m d : Nat) (xs ys : List Nat) (w : World) (hx : Rd w A n c xs) (hy : Rd w B m d ys) (T : Tb w) : Calls Tryd.prog 3 #[.agg #[.bool s, .slice A n c, .slice B m d]] w (fun e w' => e = .returned (.bool true) ∧ Below w.heap.size w w') := by
  by_cases h : n ≤ 3 ∧ m ≤ 3
  · by_cases hi : Isd (rv s xs ys)
    · exact de_yes s A n c B m d _ w ⟨xs, ys, hx, hy, rfl⟩ h.1 h.2 hi T
    · exact de_not s A n c B m d _ w ⟨xs, ys, hx, hy, rfl⟩ h.1 h.2 hi T
  · exact de_no s A n c B m d w h T
end Go.Proofs.YthiapkalmmgliaaDoor
