/-
  The walk of DyadicRound.
-/
import Derived.Test.YthiapkalmmgliaaDoorY1
namespace Go.Proofs.YthiapkalmmgliaaDoor
open Go.RowKit
set_option linter.unusedVariables false
set_option linter.unusedSimpArgs false

theorem rydown_at (s : Bool) (A : Option Addr) (n c : Nat) (B : Option Addr) (m d : Nat) (k : Nat) (P : Int) (q v : Rat) (w : World) (hv : tq q k false = v) (hP : P = (k : Int)) (h : Iq w s A n c B m d q) (hn : n ≤ 3) (hm : m ≤ 3) (hs : Qs 3 q) (hk : 1 ≤ k ∧ k ≤ 200) :
    Calls Tryd.prog 26 #[.agg #[.bool s, .slice A n c, .slice B m d], .int .i64 P] w (GDE w v 0) := by
  subst hv
  exact rydown_q s A n c B m d k 3 P q w hP h (by omega) (by omega) hs (by omega) (by omega)
theorem ryup_at (s : Bool) (A : Option Addr) (n c : Nat) (B : Option Addr) (m d : Nat) (k : Nat) (P : Int) (q v : Rat) (w : World) (hv : tq q k true = v) (hP : P = (k : Int)) (h : Iq w s A n c B m d q) (hn : n ≤ 3) (hm : m ≤ 3) (hs : Qs 3 q) (hk : 1 ≤ k ∧ k ≤ 200) :
    Calls Tryd.prog 27 #[.agg #[.bool s, .slice A n c, .slice B m d], .int .i64 P] w (GDE w v 0) := by
  subst hv
  exact ryup_q s A n c B m d k 3 P q w hP h (by omega) (by omega) hs (by omega) (by omega)
theorem tq_pw {q : Rat} {k K : Nat} (up : Bool) (hk : 1 ≤ k) (hK : k ≤ 32 * K) : dm (tq q k up) < pw K := by
  have h := tq_dm (q := q) up hk
  rw [pw_pow]
  exact bl_iff.1 (Nat.le_trans h hK)
set_option maxHeartbeats 4000000 in
theorem dr_no (s : Bool) (A : Option Addr) (n c : Nat) (B : Option Addr) (m d : Nat) (P : Int) (q : Rat) (w : World) (h : Iq w s A n c B m d q) (hh : ¬ (n ≤ 3 ∧ m ≤ 3)) (T : Tb w) : Calls Tryd.prog 5 #[.agg #[.bool s, .slice A n c, .slice B m d], .int .i64 P] w (fun e w' => e = .returned (.bool true) ∧ Below w.heap.size w w') := by
  have HN := hide hh
  clear h hh
  have T_1 := T.alloc (EQ s A n c B m d)
  have bx_1 : Sq ((w).alloc (EQ s A n c B m d)) (w.heap.size) (.bool s) (.slice A n c) (.slice B m d) := by have h_ := Sq.new (w) (.bool s) (.slice A n c) (.slice B m d); exact h_
  have F1 := (Below.refl w.heap.size w).alloc (Nat.le_refl _) (EQ s A n c B m d)
  go_enter Tryd.func5, Tryd.ntmps5
  go_wp2_with fail
  refine (awake5 _ T_1).mono ?_
  rintro e w2 ⟨rfl, b2⟩
  have T_2 := T_1.below b2
  have bx_2 := bx_1.below b2 bx_1.lt
  have F2 := below_then F1 (Nat.le_refl _) b2
  have bx_u2 := bx_2.cell0
  have bx_v2 := bx_2.cell1
  have bx_w2 := bx_2.cell2
  go_wp2_with fail
  refine (few_no _ _ _ _ _ _ _ _ HN.out).mono ?_
  rintro e w3 ⟨rfl, b3⟩
  have T_3 := T_2.below b3
  have bx_3 := bx_2.below b3 bx_2.lt
  have F3 := below_then F2 (Nat.le_refl _) b3
  have bx_u3 := bx_3.cell0
  have bx_v3 := bx_3.cell1
  have bx_w3 := bx_3.cell2
  go_wp2
  go_ret
  exact ⟨rfl, F3⟩
set_option maxHeartbeats 4000000 in
theorem dr_mid (s : Bool) (A : Option Addr) (n c : Nat) (B : Option Addr) (m d : Nat) (P : Int) (q : Rat) (w : World) (h : Iq w s A n c B m d q) (hn : n ≤ 3) (hm : m ≤ 3) (h1 : 200 < P) (h2 : P ≤ 4096) (T : Tb w) : Calls Tryd.prog 5 #[.agg #[.bool s, .slice A n c, .slice B m d], .int .i64 P] w (fun e w' => e = .returned (.bool true) ∧ Below w.heap.size w w') := by
  have d1 : decide (200 < P) = true := decide_eq_true h1
  have d2 : decide (P ≤ 4096) = true := decide_eq_true h2
  clear h h1 h2
  have T_1 := T.alloc (EQ s A n c B m d)
  have bx_1 : Sq ((w).alloc (EQ s A n c B m d)) (w.heap.size) (.bool s) (.slice A n c) (.slice B m d) := by have h_ := Sq.new (w) (.bool s) (.slice A n c) (.slice B m d); exact h_
  have F1 := (Below.refl w.heap.size w).alloc (Nat.le_refl _) (EQ s A n c B m d)
  go_enter Tryd.func5, Tryd.ntmps5
  go_wp2_with fail
  refine (awake5 _ T_1).mono ?_
  rintro e w2 ⟨rfl, b2⟩
  have T_2 := T_1.below b2
  have bx_2 := bx_1.below b2 bx_1.lt
  have F2 := below_then F1 (Nat.le_refl _) b2
  have bx_u2 := bx_2.cell0
  have bx_v2 := bx_2.cell1
  have bx_w2 := bx_2.cell2
  go_wp2_with fail
  refine (few_yes _ _ _ _ _ _ _ _ hn hm).mono ?_
  rintro e w3 ⟨rfl, b3⟩
  have T_3 := T_2.below b3
  have bx_3 := bx_2.below b3 bx_2.lt
  have F3 := below_then F2 (Nat.le_refl _) b3
  have bx_u3 := bx_3.cell0
  have bx_v3 := bx_3.cell1
  have bx_w3 := bx_3.cell2
  go_wp2
  go_ret
  exact ⟨rfl, F3⟩
set_option maxHeartbeats 4000000 in
theorem dr_lo (s : Bool) (A : Option Addr) (n c : Nat) (B : Option Addr) (m d : Nat) (P : Int) (q : Rat) (w : World) (h : Iq w s A n c B m d q) (hn : n ≤ 3) (hm : m ≤ 3) (h1 : P < 1) (T : Tb w) : Calls Tryd.prog 5 #[.agg #[.bool s, .slice A n c, .slice B m d], .int .i64 P] w (fun e w' => e = .returned (.bool true) ∧ Below w.heap.size w w') := by
  have hs : Qs 3 q := h.size hn hm (by omega)
  have hs1 : (-q).num.natAbs < pw 3 := (size_neg hs).1
  have hs2 : (-q).den < pw 3 := (size_neg hs).2
  have n3 : n ≤ 16384 := by omega
  have m3 : m ≤ 16384 := by omega
  have d1 : decide (200 < P) = false := decide_eq_false (by omega)
  have HB := hide (show P < 1 ∨ 4096 < P by omega)
  have lz : dm (0 : Rat) < pw 1 := by rw [dmq_zero]; decide
  have k1 : 1 ≤ 1048576 := by omega
  clear hs h1
  have h_1 := h.alloc (EQ s A n c B m d)
  have T_1 := T.alloc (EQ s A n c B m d)
  have bx_1 : Sq ((w).alloc (EQ s A n c B m d)) (w.heap.size) (.bool s) (.slice A n c) (.slice B m d) := by have h_ := Sq.new (w) (.bool s) (.slice A n c) (.slice B m d); exact h_
  have F1 := (Below.refl w.heap.size w).alloc (Nat.le_refl _) (EQ s A n c B m d)
  go_enter Tryd.func5, Tryd.ntmps5
  go_wp2_with fail
  refine (awake5 _ T_1).mono ?_
  rintro e w2 ⟨rfl, b2⟩
  have h_2 := h_1.below b2
  have T_2 := T_1.below b2
  have bx_2 := bx_1.below b2 bx_1.lt
  have F2 := below_then F1 (Nat.le_refl _) b2
  have bx_u2 := bx_2.cell0
  have bx_v2 := bx_2.cell1
  have bx_w2 := bx_2.cell2
  go_wp2_with fail
  refine (few_yes _ _ _ _ _ _ _ _ hn hm).mono ?_
  rintro e w3 ⟨rfl, b3⟩
  have h_3 := h_2.below b3
  have T_3 := T_2.below b3
  have bx_3 := bx_2.below b3 bx_2.lt
  have F3 := below_then F2 (Nat.le_refl _) b3
  have bx_u3 := bx_3.cell0
  have bx_v3 := bx_3.cell1
  have bx_w3 := bx_3.cell2
  go_wp2_with fail
  refine (ydown_b _ _ _ _ _ _ _ P q _ h_3 hn hm HB.out).mono ?_
  rintro e w4 ⟨s4, A4, n4, c4, x4, rfl, y1, b4⟩
  have h_4 := h_3.below b4
  have T_4 := T_3.below b4
  have bx_4 := bx_3.below b4 bx_3.lt
  have F4 := below_then F3 (Nat.le_refl _) b4
  have bx_u4 := bx_4.cell0
  have bx_v4 := bx_4.cell1
  have bx_w4 := bx_4.cell2
  have lt_b1_bx := bx_4.lt
  have h_5 := h_4.alloc (EY s4 A4 n4 c4 x4)
  have T_5 := T_4.alloc (EY s4 A4 n4 c4 x4)
  have y1_5 := y1.alloc (EY s4 A4 n4 c4 x4)
  have bx_5 := bx_4.alloc (EY s4 A4 n4 c4 x4)
  have b1_5 : Sy ((w4).alloc (EY s4 A4 n4 c4 x4)) (w4.heap.size) (.bool s4) (.slice A4 n4 c4) (.int .i64 x4) := by have h_ := Sy.new (w4) (.bool s4) (.slice A4 n4 c4) (.int .i64 x4); exact h_
  have F5 := F4.alloc F4.size (EY s4 A4 n4 c4 x4)
  have bx_u5 := bx_5.cell0
  have bx_v5 := bx_5.cell1
  have bx_w5 := bx_5.cell2
  have b1_u5 := b1_5.cell0
  have b1_v5 := b1_5.cell1
  have b1_w5 := b1_5.cell2
  go_wp2_with fail
  refine (yup_b _ _ _ _ _ _ _ P q _ h_5 hn hm HB.out).mono ?_
  rintro e w6 ⟨s6, A6, n6, c6, x6, rfl, y2, b6⟩
  have h_6 := h_5.below b6
  have T_6 := T_5.below b6
  have y1_6 := y1_5.below b6
  have bx_6 := bx_5.below b6 bx_5.lt
  have b1_6 := b1_5.below b6 b1_5.lt
  have F6 := below_then F5 (Nat.le_refl _) b6
  have bx_u6 := bx_6.cell0
  have bx_v6 := bx_6.cell1
  have bx_w6 := bx_6.cell2
  have b1_u6 := b1_6.cell0
  have b1_v6 := b1_6.cell1
  have b1_w6 := b1_6.cell2
  have lt_b2_bx := bx_6.lt
  have lt_b2_b1 := b1_6.lt
  have h_7 := h_6.alloc (EY s6 A6 n6 c6 x6)
  have T_7 := T_6.alloc (EY s6 A6 n6 c6 x6)
  have y1_7 := y1_6.alloc (EY s6 A6 n6 c6 x6)
  have y2_7 := y2.alloc (EY s6 A6 n6 c6 x6)
  have bx_7 := bx_6.alloc (EY s6 A6 n6 c6 x6)
  have b1_7 := b1_6.alloc (EY s6 A6 n6 c6 x6)
  have b2_7 : Sy ((w6).alloc (EY s6 A6 n6 c6 x6)) (w6.heap.size) (.bool s6) (.slice A6 n6 c6) (.int .i64 x6) := by have h_ := Sy.new (w6) (.bool s6) (.slice A6 n6 c6) (.int .i64 x6); exact h_
  have F7 := F6.alloc F6.size (EY s6 A6 n6 c6 x6)
  have bx_u7 := bx_7.cell0
  have bx_v7 := bx_7.cell1
  have bx_w7 := bx_7.cell2
  have b1_u7 := b1_7.cell0
  have b1_v7 := b1_7.cell1
  have b1_w7 := b1_7.cell2
  have b2_u7 := b2_7.cell0
  have b2_v7 := b2_7.cell1
  have b2_w7 := b2_7.cell2
  go_wp2_with fail
  refine (rydown_b _ _ _ _ _ _ _ P _ HB.out).mono ?_
  rintro e w8 ⟨s8, A8, n8, c8, x8, rfl, y3, b8⟩
  have h_8 := h_7.below b8
  have T_8 := T_7.below b8
  have y1_8 := y1_7.below b8
  have y2_8 := y2_7.below b8
  have bx_8 := bx_7.below b8 bx_7.lt
  have b1_8 := b1_7.below b8 b1_7.lt
  have b2_8 := b2_7.below b8 b2_7.lt
  have F8 := below_then F7 (Nat.le_refl _) b8
  have bx_u8 := bx_8.cell0
  have bx_v8 := bx_8.cell1
  have bx_w8 := bx_8.cell2
  have b1_u8 := b1_8.cell0
  have b1_v8 := b1_8.cell1
  have b1_w8 := b1_8.cell2
  have b2_u8 := b2_8.cell0
  have b2_v8 := b2_8.cell1
  have b2_w8 := b2_8.cell2
  have lt_b3_bx := bx_8.lt
  have lt_b3_b1 := b1_8.lt
  have lt_b3_b2 := b2_8.lt
  have h_9 := h_8.alloc (EY s8 A8 n8 c8 x8)
  have T_9 := T_8.alloc (EY s8 A8 n8 c8 x8)
  have y1_9 := y1_8.alloc (EY s8 A8 n8 c8 x8)
  have y2_9 := y2_8.alloc (EY s8 A8 n8 c8 x8)
  have y3_9 := y3.alloc (EY s8 A8 n8 c8 x8)
  have bx_9 := bx_8.alloc (EY s8 A8 n8 c8 x8)
  have b1_9 := b1_8.alloc (EY s8 A8 n8 c8 x8)
  have b2_9 := b2_8.alloc (EY s8 A8 n8 c8 x8)
  have b3_9 : Sy ((w8).alloc (EY s8 A8 n8 c8 x8)) (w8.heap.size) (.bool s8) (.slice A8 n8 c8) (.int .i64 x8) := by have h_ := Sy.new (w8) (.bool s8) (.slice A8 n8 c8) (.int .i64 x8); exact h_
  have F9 := F8.alloc F8.size (EY s8 A8 n8 c8 x8)
  have bx_u9 := bx_9.cell0
  have bx_v9 := bx_9.cell1
  have bx_w9 := bx_9.cell2
  have b1_u9 := b1_9.cell0
  have b1_v9 := b1_9.cell1
  have b1_w9 := b1_9.cell2
  have b2_u9 := b2_9.cell0
  have b2_v9 := b2_9.cell1
  have b2_w9 := b2_9.cell2
  have b3_u9 := b3_9.cell0
  have b3_v9 := b3_9.cell1
  have b3_w9 := b3_9.cell2
  go_wp2_with fail
  refine (ryup_b _ _ _ _ _ _ _ P _ HB.out).mono ?_
  rintro e w10 ⟨s10, A10, n10, c10, x10, rfl, y4, b10⟩
  have h_10 := h_9.below b10
  have T_10 := T_9.below b10
  have y1_10 := y1_9.below b10
  have y2_10 := y2_9.below b10
  have y3_10 := y3_9.below b10
  have bx_10 := bx_9.below b10 bx_9.lt
  have b1_10 := b1_9.below b10 b1_9.lt
  have b2_10 := b2_9.below b10 b2_9.lt
  have b3_10 := b3_9.below b10 b3_9.lt
  have F10 := below_then F9 (Nat.le_refl _) b10
  have bx_u10 := bx_10.cell0
  have bx_v10 := bx_10.cell1
  have bx_w10 := bx_10.cell2
  have b1_u10 := b1_10.cell0
  have b1_v10 := b1_10.cell1
  have b1_w10 := b1_10.cell2
  have b2_u10 := b2_10.cell0
  have b2_v10 := b2_10.cell1
  have b2_w10 := b2_10.cell2
  have b3_u10 := b3_10.cell0
  have b3_v10 := b3_10.cell1
  have b3_w10 := b3_10.cell2
  have lt_b4_bx := bx_10.lt
  have lt_b4_b1 := b1_10.lt
  have lt_b4_b2 := b2_10.lt
  have lt_b4_b3 := b3_10.lt
  have h_11 := h_10.alloc (EY s10 A10 n10 c10 x10)
  have T_11 := T_10.alloc (EY s10 A10 n10 c10 x10)
  have y1_11 := y1_10.alloc (EY s10 A10 n10 c10 x10)
  have y2_11 := y2_10.alloc (EY s10 A10 n10 c10 x10)
  have y3_11 := y3_10.alloc (EY s10 A10 n10 c10 x10)
  have y4_11 := y4.alloc (EY s10 A10 n10 c10 x10)
  have bx_11 := bx_10.alloc (EY s10 A10 n10 c10 x10)
  have b1_11 := b1_10.alloc (EY s10 A10 n10 c10 x10)
  have b2_11 := b2_10.alloc (EY s10 A10 n10 c10 x10)
  have b3_11 := b3_10.alloc (EY s10 A10 n10 c10 x10)
  have b4_11 : Sy ((w10).alloc (EY s10 A10 n10 c10 x10)) (w10.heap.size) (.bool s10) (.slice A10 n10 c10) (.int .i64 x10) := by have h_ := Sy.new (w10) (.bool s10) (.slice A10 n10 c10) (.int .i64 x10); exact h_
  have F11 := F10.alloc F10.size (EY s10 A10 n10 c10 x10)
  have bx_u11 := bx_11.cell0
  have bx_v11 := bx_11.cell1
  have bx_w11 := bx_11.cell2
  have b1_u11 := b1_11.cell0
  have b1_v11 := b1_11.cell1
  have b1_w11 := b1_11.cell2
  have b2_u11 := b2_11.cell0
  have b2_v11 := b2_11.cell1
  have b2_w11 := b2_11.cell2
  have b3_u11 := b3_11.cell0
  have b3_v11 := b3_11.cell1
  have b3_w11 := b3_11.cell2
  have b4_u11 := b4_11.cell0
  have b4_v11 := b4_11.cell1
  have b4_w11 := b4_11.cell2
  go_wp2_with fail
  refine (rneg_q _ _ _ _ _ _ _ q _ h_11 n3 m3).mono ?_
  rintro e w12 ⟨s12, A12, n12, c12, B12, m12, d12, rfl, nx, b12⟩
  have h_12 := h_11.below b12
  have T_12 := T_11.below b12
  have y1_12 := y1_11.below b12
  have y2_12 := y2_11.below b12
  have y3_12 := y3_11.below b12
  have y4_12 := y4_11.below b12
  have bx_12 := bx_11.below b12 bx_11.lt
  have b1_12 := b1_11.below b12 b1_11.lt
  have b2_12 := b2_11.below b12 b2_11.lt
  have b3_12 := b3_11.below b12 b3_11.lt
  have b4_12 := b4_11.below b12 b4_11.lt
  have F12 := below_then F11 (Nat.le_refl _) b12
  have bx_u12 := bx_12.cell0
  have bx_v12 := bx_12.cell1
  have bx_w12 := bx_12.cell2
  have b1_u12 := b1_12.cell0
  have b1_v12 := b1_12.cell1
  have b1_w12 := b1_12.cell2
  have b2_u12 := b2_12.cell0
  have b2_v12 := b2_12.cell1
  have b2_w12 := b2_12.cell2
  have b3_u12 := b3_12.cell0
  have b3_v12 := b3_12.cell1
  have b3_w12 := b3_12.cell2
  have b4_u12 := b4_12.cell0
  have b4_v12 := b4_12.cell1
  have b4_w12 := b4_12.cell2
  have nn := nx.ln hs1
  have mm := nx.ld hs2
  go_wp2_with fail
  refine (ydown_b _ _ _ _ _ _ _ P (-q) _ nx.iq nn mm HB.out).mono ?_
  rintro e w13 ⟨s13, A13, n13, c13, x13, rfl, y5, b13⟩
  have T_13 := T_12.below b13
  have y1_13 := y1_12.below b13
  have y2_13 := y2_12.below b13
  have y3_13 := y3_12.below b13
  have y4_13 := y4_12.below b13
  have nx_13 := nx.below b13
  have bx_13 := bx_12.below b13 bx_12.lt
  have b1_13 := b1_12.below b13 b1_12.lt
  have b2_13 := b2_12.below b13 b2_12.lt
  have b3_13 := b3_12.below b13 b3_12.lt
  have b4_13 := b4_12.below b13 b4_12.lt
  have F13 := below_then F12 (Nat.le_refl _) b13
  have bx_u13 := bx_13.cell0
  have bx_v13 := bx_13.cell1
  have bx_w13 := bx_13.cell2
  have b1_u13 := b1_13.cell0
  have b1_v13 := b1_13.cell1
  have b1_w13 := b1_13.cell2
  have b2_u13 := b2_13.cell0
  have b2_v13 := b2_13.cell1
  have b2_w13 := b2_13.cell2
  have b3_u13 := b3_13.cell0
  have b3_v13 := b3_13.cell1
  have b3_w13 := b3_13.cell2
  have b4_u13 := b4_13.cell0
  have b4_v13 := b4_13.cell1
  have b4_w13 := b4_13.cell2
  have lt_b5_bx := bx_13.lt
  have lt_b5_b1 := b1_13.lt
  have lt_b5_b2 := b2_13.lt
  have lt_b5_b3 := b3_13.lt
  have lt_b5_b4 := b4_13.lt
  have T_14 := T_13.alloc (EY s13 A13 n13 c13 x13)
  have y1_14 := y1_13.alloc (EY s13 A13 n13 c13 x13)
  have y2_14 := y2_13.alloc (EY s13 A13 n13 c13 x13)
  have y3_14 := y3_13.alloc (EY s13 A13 n13 c13 x13)
  have y4_14 := y4_13.alloc (EY s13 A13 n13 c13 x13)
  have nx_14 := nx_13.alloc (EY s13 A13 n13 c13 x13)
  have y5_14 := y5.alloc (EY s13 A13 n13 c13 x13)
  have bx_14 := bx_13.alloc (EY s13 A13 n13 c13 x13)
  have b1_14 := b1_13.alloc (EY s13 A13 n13 c13 x13)
  have b2_14 := b2_13.alloc (EY s13 A13 n13 c13 x13)
  have b3_14 := b3_13.alloc (EY s13 A13 n13 c13 x13)
  have b4_14 := b4_13.alloc (EY s13 A13 n13 c13 x13)
  have b5_14 : Sy ((w13).alloc (EY s13 A13 n13 c13 x13)) (w13.heap.size) (.bool s13) (.slice A13 n13 c13) (.int .i64 x13) := by have h_ := Sy.new (w13) (.bool s13) (.slice A13 n13 c13) (.int .i64 x13); exact h_
  have F14 := F13.alloc F13.size (EY s13 A13 n13 c13 x13)
  have bx_u14 := bx_14.cell0
  have bx_v14 := bx_14.cell1
  have bx_w14 := bx_14.cell2
  have b1_u14 := b1_14.cell0
  have b1_v14 := b1_14.cell1
  have b1_w14 := b1_14.cell2
  have b2_u14 := b2_14.cell0
  have b2_v14 := b2_14.cell1
  have b2_w14 := b2_14.cell2
  have b3_u14 := b3_14.cell0
  have b3_v14 := b3_14.cell1
  have b3_w14 := b3_14.cell2
  have b4_u14 := b4_14.cell0
  have b4_v14 := b4_14.cell1
  have b4_w14 := b4_14.cell2
  have b5_u14 := b5_14.cell0
  have b5_v14 := b5_14.cell1
  have b5_w14 := b5_14.cell2
  have l1_ := Nat.le_trans (y1_14.ln lz) k1
  have l2_ := Nat.le_trans (y2_14.ln lz) k1
  have l3_ := Nat.le_trans (y3_14.ln lz) k1
  have l4_ := Nat.le_trans (y4_14.ln lz) k1
  go_wp2_with fail
  have y1_15 := y1_14.drew
  have y2_15 := y2_14.drew
  have y3_15 := y3_14.drew
  have y4_15 := y4_14.drew
  have y5_15 := y5_14.drew
  have b1_15 := b1_14.drew
  have b2_15 := b2_14.drew
  have b3_15 := b3_14.drew
  have b4_15 := b4_14.drew
  have b5_15 := b5_14.drew
  have F15 := F14.drew
  refine wp_region_held_drew (S := fun w' => w'.cell? ⟨w4.heap.size, 0, none⟩ = some (.bool s4) ∧ w'.cell? ⟨w4.heap.size, 1, none⟩ = some (.slice A4 n4 c4) ∧ w'.cell? ⟨w4.heap.size, 2, none⟩ = some (.int .i64 x4) ∧ w'.cell? ⟨w6.heap.size, 0, none⟩ = some (.bool s6) ∧ w'.cell? ⟨w6.heap.size, 1, none⟩ = some (.slice A6 n6 c6) ∧ w'.cell? ⟨w6.heap.size, 2, none⟩ = some (.int .i64 x6) ∧ w'.cell? ⟨w8.heap.size, 0, none⟩ = some (.bool s8) ∧ w'.cell? ⟨w8.heap.size, 1, none⟩ = some (.slice A8 n8 c8) ∧ w'.cell? ⟨w8.heap.size, 2, none⟩ = some (.int .i64 x8) ∧ w'.cell? ⟨w10.heap.size, 0, none⟩ = some (.bool s10) ∧ w'.cell? ⟨w10.heap.size, 1, none⟩ = some (.slice A10 n10 c10) ∧ w'.cell? ⟨w10.heap.size, 2, none⟩ = some (.int .i64 x10)) (by kernel_rfl) ?_ (fun hHeld => ?_)
  · (try dsimp only); exact ⟨b1_15.cell0, b1_15.cell1, b1_15.cell2, b2_15.cell0, b2_15.cell1, b2_15.cell2, b3_15.cell0, b3_15.cell1, b3_15.cell2, b4_15.cell0, b4_15.cell1, b4_15.cell2⟩
  refine wpAnyH_take (i := 0) (v := ?_) rfl (by kernel_rfl) (by kernel_rfl) (by kernel_rfl) (fun _ _ _ h => h) (Or.inl ⟨by rfl, ?_⟩) (by assumption) ?_
  rotate_left 1
  · (intro w9 hSw; (try dsimp only at hSw); go_simp; try with_reducible rfl)
  try simp only [Act.put, List.getElem_toArray, List.getElem_cons_succ, List.getElem_cons_zero, List.setIfInBounds_toArray, List.set_cons_zero, List.set_cons_succ]
  refine wpAnyH_take (i := 1) (v := ?_) rfl (by kernel_rfl) (by kernel_rfl) (by kernel_rfl) (fun _ _ _ h => h) (Or.inl ⟨by rfl, ?_⟩) (by assumption) ?_
  rotate_left 1
  · (intro w9 hSw; (try dsimp only at hSw); go_simp; try with_reducible rfl)
  try simp only [Act.put, List.getElem_toArray, List.getElem_cons_succ, List.getElem_cons_zero, List.setIfInBounds_toArray, List.set_cons_zero, List.set_cons_succ]
  refine wpAnyH_take (i := 2) (v := ?_) rfl (by kernel_rfl) (by kernel_rfl) (by kernel_rfl) (fun _ _ _ h => h) (Or.inl ⟨by rfl, ?_⟩) (by assumption) ?_
  rotate_left 1
  · (intro w9 hSw; (try dsimp only at hSw); go_simp; try with_reducible rfl)
  try simp only [Act.put, List.getElem_toArray, List.getElem_cons_succ, List.getElem_cons_zero, List.setIfInBounds_toArray, List.set_cons_zero, List.set_cons_succ]
  refine wpAnyH_take (i := 3) (v := ?_) rfl (by kernel_rfl) (by kernel_rfl) (by kernel_rfl) (fun _ _ _ h => h) (Or.inl ⟨by rfl, ?_⟩) (by assumption) ?_
  rotate_left 1
  · (intro w9 hSw; (try dsimp only at hSw); go_simp; try with_reducible rfl)
  try simp only [Act.put, List.getElem_toArray, List.getElem_cons_succ, List.getElem_cons_zero, List.setIfInBounds_toArray, List.set_cons_zero, List.set_cons_succ]
  refine wpAnyH_take (i := 4) (v := ?_) rfl (by kernel_rfl) (by kernel_rfl) (by kernel_rfl) (fun _ _ _ h => h) (Or.inl ⟨by rfl, ?_⟩) (by assumption) ?_
  rotate_left 1
  · (intro w9 hSw; (try dsimp only at hSw); go_simp; try with_reducible rfl)
  try simp only [Act.put, List.getElem_toArray, List.getElem_cons_succ, List.getElem_cons_zero, List.setIfInBounds_toArray, List.set_cons_zero, List.set_cons_succ]
  refine wpAnyH_take (i := 5) (v := ?_) rfl (by kernel_rfl) (by kernel_rfl) (by kernel_rfl) (fun _ _ _ h => h) (Or.inl ⟨by rfl, ?_⟩) (by assumption) ?_
  rotate_left 1
  · (intro w9 hSw; (try dsimp only at hSw); go_simp; try with_reducible rfl)
  try simp only [Act.put, List.getElem_toArray, List.getElem_cons_succ, List.getElem_cons_zero, List.setIfInBounds_toArray, List.set_cons_zero, List.set_cons_succ]
  refine wpAnyH_take (i := 6) (v := ?_) rfl (by kernel_rfl) (by kernel_rfl) (by kernel_rfl) (fun _ _ _ h => h) (Or.inl ⟨by rfl, ?_⟩) (by assumption) ?_
  rotate_left 1
  · (intro w9 hSw; (try dsimp only at hSw); go_simp; try with_reducible rfl)
  try simp only [Act.put, List.getElem_toArray, List.getElem_cons_succ, List.getElem_cons_zero, List.setIfInBounds_toArray, List.set_cons_zero, List.set_cons_succ]
  refine wpAnyH_take (i := 7) (v := ?_) rfl (by kernel_rfl) (by kernel_rfl) (by kernel_rfl) (fun _ _ _ h => h) (Or.inl ⟨by rfl, ?_⟩) (by assumption) ?_
  rotate_left 1
  · (intro w9 hSw; (try dsimp only at hSw); go_simp; try with_reducible rfl)
  try simp only [Act.put, List.getElem_toArray, List.getElem_cons_succ, List.getElem_cons_zero, List.setIfInBounds_toArray, List.set_cons_zero, List.set_cons_succ]
  refine wpAnyH_take (i := 8) (v := ?_) rfl (by kernel_rfl) (by kernel_rfl) (by kernel_rfl) (fun _ _ _ h => h) (Or.inl ⟨by rfl, ?_⟩) (by assumption) ?_
  rotate_left 1
  · (intro w9 hSw; (try dsimp only at hSw); go_simp; try with_reducible rfl)
  try simp only [Act.put, List.getElem_toArray, List.getElem_cons_succ, List.getElem_cons_zero, List.setIfInBounds_toArray, List.set_cons_zero, List.set_cons_succ]
  refine wpAnyH_take (i := 9) (v := ?_) rfl (by kernel_rfl) (by kernel_rfl) (by kernel_rfl) (fun _ _ _ h => h) (Or.inl ⟨by rfl, ?_⟩) (by assumption) ?_
  rotate_left 1
  · (intro w9 hSw; (try dsimp only at hSw); go_simp; try with_reducible rfl)
  try simp only [Act.put, List.getElem_toArray, List.getElem_cons_succ, List.getElem_cons_zero, List.setIfInBounds_toArray, List.set_cons_zero, List.set_cons_succ]
  refine wpAnyH_take (i := 10) (v := ?_) rfl (by kernel_rfl) (by kernel_rfl) (by kernel_rfl) (fun _ _ _ h => h) (Or.inl ⟨by rfl, ?_⟩) (by assumption) ?_
  rotate_left 1
  · (intro w9 hSw; (try dsimp only at hSw); go_simp; try with_reducible rfl)
  try simp only [Act.put, List.getElem_toArray, List.getElem_cons_succ, List.getElem_cons_zero, List.setIfInBounds_toArray, List.set_cons_zero, List.set_cons_succ]
  refine wpAnyH_take (i := 11) (v := ?_) rfl (by kernel_rfl) (by kernel_rfl) (by kernel_rfl) (fun _ _ _ h => h) (Or.inl ⟨by rfl, ?_⟩) (by assumption) ?_
  rotate_left 1
  · (intro w9 hSw; (try dsimp only at hSw); go_simp; try with_reducible rfl)
  try simp only [Act.put, List.getElem_toArray, List.getElem_cons_succ, List.getElem_cons_zero, List.setIfInBounds_toArray, List.set_cons_zero, List.set_cons_succ]
  refine wpAnyH_take (i := 12) (v := ?_) rfl (by kernel_rfl) (by kernel_rfl) (by kernel_rfl) (fun _ _ _ h => h) (Or.inl ⟨by rfl, ?_⟩) (by assumption) ?_
  rotate_left 1
  · (intro w9 hSw; (try dsimp only at hSw); go_simp; try with_reducible rfl)
  try simp only [Act.put, List.getElem_toArray, List.getElem_cons_succ, List.getElem_cons_zero, List.setIfInBounds_toArray, List.set_cons_zero, List.set_cons_succ]
  refine wpAnyH_take (i := 13) (v := ?_) rfl (by kernel_rfl) (by kernel_rfl) (by kernel_rfl) (fun _ _ _ h => h) (Or.inl ⟨by rfl, ?_⟩) (by assumption) ?_
  rotate_left 1
  · (intro w9 hSw; (try dsimp only at hSw); go_simp; try with_reducible rfl)
  try simp only [Act.put, List.getElem_toArray, List.getElem_cons_succ, List.getElem_cons_zero, List.setIfInBounds_toArray, List.set_cons_zero, List.set_cons_succ]
  refine wpAnyH_take (i := 14) (v := ?_) rfl (by kernel_rfl) (by kernel_rfl) (by kernel_rfl) (fun _ _ _ h => h) (Or.inl ⟨by rfl, ?_⟩) (by assumption) ?_
  rotate_left 1
  · (intro w9 hSw; (try dsimp only at hSw); go_simp; try with_reducible rfl)
  try simp only [Act.put, List.getElem_toArray, List.getElem_cons_succ, List.getElem_cons_zero, List.setIfInBounds_toArray, List.set_cons_zero, List.set_cons_succ]
  refine wpAnyH_take (i := 15) (v := ?_) rfl (by kernel_rfl) (by kernel_rfl) (by kernel_rfl) (fun _ _ _ h => h) (Or.inl ⟨by rfl, ?_⟩) (by assumption) ?_
  rotate_left 1
  · (intro w9 hSw; (try dsimp only at hSw); go_simp; try with_reducible rfl)
  try simp only [Act.put, List.getElem_toArray, List.getElem_cons_succ, List.getElem_cons_zero, List.setIfInBounds_toArray, List.set_cons_zero, List.set_cons_succ]
  refine wpAnyH_ready (rs := [16]) (by kernel_rfl) (by simp) ?_
  refine AllReadyH.cons rfl (fun K hK => ?_) AllReadyH.nil
  go_simp
  go_at_call 14
  with_reducible refine (rysame_q _ _ _ _ _ _ _ _ _ _ 0 _ y1_15 y3_15 l1_ l3_).mono ?_
  rintro e w16 ⟨rfl, b16⟩
  have y1_16 := y1_15.below b16
  have y2_16 := y2_15.below b16
  have y3_16 := y3_15.below b16
  have y4_16 := y4_15.below b16
  have y5_16 := y5_15.below b16
  have b1_16 := b1_15.below b16 b1_15.lt
  have b2_16 := b2_15.below b16 b2_15.lt
  have b3_16 := b3_15.below b16 b3_15.lt
  have b4_16 := b4_15.below b16 b4_15.lt
  have b5_16 := b5_15.below b16 b5_15.lt
  have F16 := below_then F15 (Nat.le_refl _) b16
  try dsimp only
  refine hK.out _ _ ?_ (fun hHeld => ?_)
  · (try dsimp only); exact ⟨b1_16.cell0, b1_16.cell1, b1_16.cell2, b2_16.cell0, b2_16.cell1, b2_16.cell2, b3_16.cell0, b3_16.cell1, b3_16.cell2, b4_16.cell0, b4_16.cell1, b4_16.cell2⟩
  clear hK K
  try simp only [Act.put, List.getElem_toArray, List.getElem_cons_succ, List.getElem_cons_zero, List.setIfInBounds_toArray, List.set_cons_zero, List.set_cons_succ]
  refine wpAnyH_take (i := 17) (v := ?_) rfl (by kernel_rfl) (by kernel_rfl) (by kernel_rfl) (fun _ _ _ h => h) (Or.inl ⟨by rfl, ?_⟩) (by assumption) ?_
  rotate_left 1
  · (intro w9 hSw; (try dsimp only at hSw); go_simp; try with_reducible rfl)
  try simp only [Act.put, List.getElem_toArray, List.getElem_cons_succ, List.getElem_cons_zero, List.setIfInBounds_toArray, List.set_cons_zero, List.set_cons_succ]
  refine wpAnyH_take (i := 18) (v := ?_) rfl (by kernel_rfl) (by kernel_rfl) (by kernel_rfl) (fun _ _ _ h => h) (Or.inl ⟨by rfl, ?_⟩) (by assumption) ?_
  rotate_left 1
  · (intro w9 hSw; (try dsimp only at hSw); go_simp; try with_reducible rfl)
  try simp only [Act.put, List.getElem_toArray, List.getElem_cons_succ, List.getElem_cons_zero, List.setIfInBounds_toArray, List.set_cons_zero, List.set_cons_succ]
  refine wpAnyH_take (i := 19) (v := ?_) rfl (by kernel_rfl) (by kernel_rfl) (by kernel_rfl) (fun _ _ _ h => h) (Or.inl ⟨by rfl, ?_⟩) (by assumption) ?_
  rotate_left 1
  · (intro w9 hSw; (try dsimp only at hSw); go_simp; try with_reducible rfl)
  try simp only [Act.put, List.getElem_toArray, List.getElem_cons_succ, List.getElem_cons_zero, List.setIfInBounds_toArray, List.set_cons_zero, List.set_cons_succ]
  refine wpAnyH_take (i := 20) (v := ?_) rfl (by kernel_rfl) (by kernel_rfl) (by kernel_rfl) (fun _ _ _ h => h) (Or.inl ⟨by rfl, ?_⟩) (by assumption) ?_
  rotate_left 1
  · (intro w9 hSw; (try dsimp only at hSw); go_simp; try with_reducible rfl)
  try simp only [Act.put, List.getElem_toArray, List.getElem_cons_succ, List.getElem_cons_zero, List.setIfInBounds_toArray, List.set_cons_zero, List.set_cons_succ]
  refine wpAnyH_ready (rs := [21]) (by kernel_rfl) (by simp) ?_
  refine AllReadyH.cons rfl (fun K hK => ?_) AllReadyH.nil
  go_simp
  go_at_call 14
  with_reducible refine (rysame_q _ _ _ _ _ _ _ _ _ _ 0 _ y2_16 y4_16 l2_ l4_).mono ?_
  rintro e w17 ⟨rfl, b17⟩
  have y1_17 := y1_16.below b17
  have y2_17 := y2_16.below b17
  have y3_17 := y3_16.below b17
  have y4_17 := y4_16.below b17
  have y5_17 := y5_16.below b17
  have b1_17 := b1_16.below b17 b1_16.lt
  have b2_17 := b2_16.below b17 b2_16.lt
  have b3_17 := b3_16.below b17 b3_16.lt
  have b4_17 := b4_16.below b17 b4_16.lt
  have b5_17 := b5_16.below b17 b5_16.lt
  have F17 := below_then F16 (Nat.le_refl _) b17
  try dsimp only
  refine hK.out _ _ ?_ (fun hHeld => ?_)
  · (try dsimp only); exact ⟨b1_17.cell0, b1_17.cell1, b1_17.cell2, b2_17.cell0, b2_17.cell1, b2_17.cell2, b3_17.cell0, b3_17.cell1, b3_17.cell2, b4_17.cell0, b4_17.cell1, b4_17.cell2⟩
  clear hK K
  try simp only [Act.put, List.getElem_toArray, List.getElem_cons_succ, List.getElem_cons_zero, List.setIfInBounds_toArray, List.set_cons_zero, List.set_cons_succ]
  refine wpAnyH_take (i := 22) (v := ?_) rfl (by kernel_rfl) (by kernel_rfl) (by kernel_rfl) (fun _ _ _ h => h) (Or.inl ⟨by rfl, ?_⟩) (by assumption) ?_
  rotate_left 1
  · (intro w9 hSw; (try dsimp only at hSw); go_simp; try with_reducible rfl)
  try simp only [Act.put, List.getElem_toArray, List.getElem_cons_succ, List.getElem_cons_zero, List.setIfInBounds_toArray, List.set_cons_zero, List.set_cons_succ]
  refine wpAnyH_take (i := 23) (v := ?_) rfl (by kernel_rfl) (by kernel_rfl) (by kernel_rfl) (fun _ _ _ h => h) (Or.inl ⟨by rfl, ?_⟩) (by assumption) ?_
  rotate_left 1
  · (intro w9 hSw; (try dsimp only at hSw); go_simp; try with_reducible rfl)
  try simp only [Act.put, List.getElem_toArray, List.getElem_cons_succ, List.getElem_cons_zero, List.setIfInBounds_toArray, List.set_cons_zero, List.set_cons_succ]
  refine wpAnyH_take (i := 24) (v := ?_) rfl (by kernel_rfl) (by kernel_rfl) (by kernel_rfl) (fun _ _ _ h => h) (Or.inl ⟨by rfl, ?_⟩) (by assumption) ?_
  rotate_left 1
  · (intro w9 hSw; (try dsimp only at hSw); go_simp; try with_reducible rfl)
  try simp only [Act.put, List.getElem_toArray, List.getElem_cons_succ, List.getElem_cons_zero, List.setIfInBounds_toArray, List.set_cons_zero, List.set_cons_succ]
  refine wpAnyH_take (i := 25) (v := ?_) rfl (by kernel_rfl) (by kernel_rfl) (by kernel_rfl) (fun _ _ _ h => h) (Or.inl ⟨by rfl, ?_⟩) (by assumption) ?_
  rotate_left 1
  · (intro w9 hSw; (try dsimp only at hSw); go_simp; try with_reducible rfl)
  try simp only [Act.put, List.getElem_toArray, List.getElem_cons_succ, List.getElem_cons_zero, List.setIfInBounds_toArray, List.set_cons_zero, List.set_cons_succ]
  refine wpAnyH_take (i := 26) (v := ?_) rfl (by kernel_rfl) (by kernel_rfl) (by kernel_rfl) (fun _ _ _ h => h) (Or.inl ⟨by rfl, ?_⟩) (by assumption) ?_
  rotate_left 1
  · (intro w9 hSw; (try dsimp only at hSw); go_simp; try with_reducible rfl)
  try simp only [Act.put, List.getElem_toArray, List.getElem_cons_succ, List.getElem_cons_zero, List.setIfInBounds_toArray, List.set_cons_zero, List.set_cons_succ]
  refine wpAnyH_take (i := 27) (v := undef) rfl (by kernel_rfl) (by kernel_rfl) (by kernel_rfl) (fun _ _ _ h => h) (Or.inr ⟨by rfl, rfl⟩) (by assumption) ?_
  try simp only [Act.put, List.getElem_toArray, List.getElem_cons_succ, List.getElem_cons_zero, List.setIfInBounds_toArray, List.set_cons_zero, List.set_cons_succ]
  refine wpAnyH_take (i := 28) (v := undef) rfl (by kernel_rfl) (by kernel_rfl) (by kernel_rfl) (fun _ _ _ h => h) (Or.inr ⟨by rfl, rfl⟩) (by assumption) ?_
  try simp only [Act.put, List.getElem_toArray, List.getElem_cons_succ, List.getElem_cons_zero, List.setIfInBounds_toArray, List.set_cons_zero, List.set_cons_succ]
  refine wpAnyH_take (i := 29) (v := undef) rfl (by kernel_rfl) (by kernel_rfl) (by kernel_rfl) (fun _ _ _ h => h) (Or.inr ⟨by rfl, rfl⟩) (by assumption) ?_
  try simp only [Act.put, List.getElem_toArray, List.getElem_cons_succ, List.getElem_cons_zero, List.setIfInBounds_toArray, List.set_cons_zero, List.set_cons_succ]
  refine wpAnyH_take (i := 30) (v := undef) rfl (by kernel_rfl) (by kernel_rfl) (by kernel_rfl) (fun _ _ _ h => h) (Or.inr ⟨by rfl, rfl⟩) (by assumption) ?_
  try simp only [Act.put, List.getElem_toArray, List.getElem_cons_succ, List.getElem_cons_zero, List.setIfInBounds_toArray, List.set_cons_zero, List.set_cons_succ]
  refine wpAnyH_take (i := 31) (v := ?_) rfl (by kernel_rfl) (by kernel_rfl) (by kernel_rfl) (fun _ _ _ h => h) (Or.inl ⟨by rfl, ?_⟩) (by assumption) ?_
  rotate_left 1
  · (intro w9 hSw; (try dsimp only at hSw); go_simp; try with_reducible rfl)
  try simp only [Act.put, List.getElem_toArray, List.getElem_cons_succ, List.getElem_cons_zero, List.setIfInBounds_toArray, List.set_cons_zero, List.set_cons_succ]
  refine wpAnyH_take (i := 32) (v := ?_) rfl (by kernel_rfl) (by kernel_rfl) (by kernel_rfl) (fun _ _ _ h => h) (Or.inl ⟨by rfl, ?_⟩) (by assumption) ?_
  rotate_left 1
  · (intro w9 hSw; (try dsimp only at hSw); go_simp; try with_reducible rfl)
  try simp only [Act.put, List.getElem_toArray, List.getElem_cons_succ, List.getElem_cons_zero, List.setIfInBounds_toArray, List.set_cons_zero, List.set_cons_succ]
  refine wpAnyH_take (i := 33) (v := ?_) rfl (by kernel_rfl) (by kernel_rfl) (by kernel_rfl) (fun _ _ _ h => h) (Or.inl ⟨by rfl, ?_⟩) (by assumption) ?_
  rotate_left 1
  · (intro w9 hSw; (try dsimp only at hSw); go_simp; try with_reducible rfl)
  try simp only [Act.put, List.getElem_toArray, List.getElem_cons_succ, List.getElem_cons_zero, List.setIfInBounds_toArray, List.set_cons_zero, List.set_cons_succ]
  refine wpAnyH_done (by kernel_rfl) ?_ _
  all_goals go_wp2
  all_goals go_ret
  all_goals exact ⟨rfl, F17⟩
set_option maxHeartbeats 4000000 in
theorem dr_hi (s : Bool) (A : Option Addr) (n c : Nat) (B : Option Addr) (m d : Nat) (P : Int) (q : Rat) (w : World) (h : Iq w s A n c B m d q) (hn : n ≤ 3) (hm : m ≤ 3) (h1 : 4096 < P) (T : Tb w) : Calls Tryd.prog 5 #[.agg #[.bool s, .slice A n c, .slice B m d], .int .i64 P] w (fun e w' => e = .returned (.bool true) ∧ Below w.heap.size w w') := by
  have hs : Qs 3 q := h.size hn hm (by omega)
  have hs1 : (-q).num.natAbs < pw 3 := (size_neg hs).1
  have hs2 : (-q).den < pw 3 := (size_neg hs).2
  have n3 : n ≤ 16384 := by omega
  have m3 : m ≤ 16384 := by omega
  have d1 : decide (200 < P) = true := decide_eq_true (by omega)
  have d2 : decide (P ≤ 4096) = false := decide_eq_false (by omega)
  have HB := hide (show P < 1 ∨ 4096 < P by omega)
  have lz : dm (0 : Rat) < pw 1 := by rw [dmq_zero]; decide
  have k1 : 1 ≤ 1048576 := by omega
  clear hs h1
  have h_1 := h.alloc (EQ s A n c B m d)
  have T_1 := T.alloc (EQ s A n c B m d)
  have bx_1 : Sq ((w).alloc (EQ s A n c B m d)) (w.heap.size) (.bool s) (.slice A n c) (.slice B m d) := by have h_ := Sq.new (w) (.bool s) (.slice A n c) (.slice B m d); exact h_
  have F1 := (Below.refl w.heap.size w).alloc (Nat.le_refl _) (EQ s A n c B m d)
  go_enter Tryd.func5, Tryd.ntmps5
  go_wp2_with fail
  refine (awake5 _ T_1).mono ?_
  rintro e w2 ⟨rfl, b2⟩
  have h_2 := h_1.below b2
  have T_2 := T_1.below b2
  have bx_2 := bx_1.below b2 bx_1.lt
  have F2 := below_then F1 (Nat.le_refl _) b2
  have bx_u2 := bx_2.cell0
  have bx_v2 := bx_2.cell1
  have bx_w2 := bx_2.cell2
  go_wp2_with fail
  refine (few_yes _ _ _ _ _ _ _ _ hn hm).mono ?_
  rintro e w3 ⟨rfl, b3⟩
  have h_3 := h_2.below b3
  have T_3 := T_2.below b3
  have bx_3 := bx_2.below b3 bx_2.lt
  have F3 := below_then F2 (Nat.le_refl _) b3
  have bx_u3 := bx_3.cell0
  have bx_v3 := bx_3.cell1
  have bx_w3 := bx_3.cell2
  go_wp2_with fail
  refine (ydown_b _ _ _ _ _ _ _ P q _ h_3 hn hm HB.out).mono ?_
  rintro e w4 ⟨s4, A4, n4, c4, x4, rfl, y1, b4⟩
  have h_4 := h_3.below b4
  have T_4 := T_3.below b4
  have bx_4 := bx_3.below b4 bx_3.lt
  have F4 := below_then F3 (Nat.le_refl _) b4
  have bx_u4 := bx_4.cell0
  have bx_v4 := bx_4.cell1
  have bx_w4 := bx_4.cell2
  have lt_b1_bx := bx_4.lt
  have h_5 := h_4.alloc (EY s4 A4 n4 c4 x4)
  have T_5 := T_4.alloc (EY s4 A4 n4 c4 x4)
  have y1_5 := y1.alloc (EY s4 A4 n4 c4 x4)
  have bx_5 := bx_4.alloc (EY s4 A4 n4 c4 x4)
  have b1_5 : Sy ((w4).alloc (EY s4 A4 n4 c4 x4)) (w4.heap.size) (.bool s4) (.slice A4 n4 c4) (.int .i64 x4) := by have h_ := Sy.new (w4) (.bool s4) (.slice A4 n4 c4) (.int .i64 x4); exact h_
  have F5 := F4.alloc F4.size (EY s4 A4 n4 c4 x4)
  have bx_u5 := bx_5.cell0
  have bx_v5 := bx_5.cell1
  have bx_w5 := bx_5.cell2
  have b1_u5 := b1_5.cell0
  have b1_v5 := b1_5.cell1
  have b1_w5 := b1_5.cell2
  go_wp2_with fail
  refine (yup_b _ _ _ _ _ _ _ P q _ h_5 hn hm HB.out).mono ?_
  rintro e w6 ⟨s6, A6, n6, c6, x6, rfl, y2, b6⟩
  have h_6 := h_5.below b6
  have T_6 := T_5.below b6
  have y1_6 := y1_5.below b6
  have bx_6 := bx_5.below b6 bx_5.lt
  have b1_6 := b1_5.below b6 b1_5.lt
  have F6 := below_then F5 (Nat.le_refl _) b6
  have bx_u6 := bx_6.cell0
  have bx_v6 := bx_6.cell1
  have bx_w6 := bx_6.cell2
  have b1_u6 := b1_6.cell0
  have b1_v6 := b1_6.cell1
  have b1_w6 := b1_6.cell2
  have lt_b2_bx := bx_6.lt
  have lt_b2_b1 := b1_6.lt
  have h_7 := h_6.alloc (EY s6 A6 n6 c6 x6)
  have T_7 := T_6.alloc (EY s6 A6 n6 c6 x6)
  have y1_7 := y1_6.alloc (EY s6 A6 n6 c6 x6)
  have y2_7 := y2.alloc (EY s6 A6 n6 c6 x6)
  have bx_7 := bx_6.alloc (EY s6 A6 n6 c6 x6)
  have b1_7 := b1_6.alloc (EY s6 A6 n6 c6 x6)
  have b2_7 : Sy ((w6).alloc (EY s6 A6 n6 c6 x6)) (w6.heap.size) (.bool s6) (.slice A6 n6 c6) (.int .i64 x6) := by have h_ := Sy.new (w6) (.bool s6) (.slice A6 n6 c6) (.int .i64 x6); exact h_
  have F7 := F6.alloc F6.size (EY s6 A6 n6 c6 x6)
  have bx_u7 := bx_7.cell0
  have bx_v7 := bx_7.cell1
  have bx_w7 := bx_7.cell2
  have b1_u7 := b1_7.cell0
  have b1_v7 := b1_7.cell1
  have b1_w7 := b1_7.cell2
  have b2_u7 := b2_7.cell0
  have b2_v7 := b2_7.cell1
  have b2_w7 := b2_7.cell2
  go_wp2_with fail
  refine (rydown_b _ _ _ _ _ _ _ P _ HB.out).mono ?_
  rintro e w8 ⟨s8, A8, n8, c8, x8, rfl, y3, b8⟩
  have h_8 := h_7.below b8
  have T_8 := T_7.below b8
  have y1_8 := y1_7.below b8
  have y2_8 := y2_7.below b8
  have bx_8 := bx_7.below b8 bx_7.lt
  have b1_8 := b1_7.below b8 b1_7.lt
  have b2_8 := b2_7.below b8 b2_7.lt
  have F8 := below_then F7 (Nat.le_refl _) b8
  have bx_u8 := bx_8.cell0
  have bx_v8 := bx_8.cell1
  have bx_w8 := bx_8.cell2
  have b1_u8 := b1_8.cell0
  have b1_v8 := b1_8.cell1
  have b1_w8 := b1_8.cell2
  have b2_u8 := b2_8.cell0
  have b2_v8 := b2_8.cell1
  have b2_w8 := b2_8.cell2
  have lt_b3_bx := bx_8.lt
  have lt_b3_b1 := b1_8.lt
  have lt_b3_b2 := b2_8.lt
  have h_9 := h_8.alloc (EY s8 A8 n8 c8 x8)
  have T_9 := T_8.alloc (EY s8 A8 n8 c8 x8)
  have y1_9 := y1_8.alloc (EY s8 A8 n8 c8 x8)
  have y2_9 := y2_8.alloc (EY s8 A8 n8 c8 x8)
  have y3_9 := y3.alloc (EY s8 A8 n8 c8 x8)
  have bx_9 := bx_8.alloc (EY s8 A8 n8 c8 x8)
  have b1_9 := b1_8.alloc (EY s8 A8 n8 c8 x8)
  have b2_9 := b2_8.alloc (EY s8 A8 n8 c8 x8)
  have b3_9 : Sy ((w8).alloc (EY s8 A8 n8 c8 x8)) (w8.heap.size) (.bool s8) (.slice A8 n8 c8) (.int .i64 x8) := by have h_ := Sy.new (w8) (.bool s8) (.slice A8 n8 c8) (.int .i64 x8); exact h_
  have F9 := F8.alloc F8.size (EY s8 A8 n8 c8 x8)
  have bx_u9 := bx_9.cell0
  have bx_v9 := bx_9.cell1
  have bx_w9 := bx_9.cell2
  have b1_u9 := b1_9.cell0
  have b1_v9 := b1_9.cell1
  have b1_w9 := b1_9.cell2
  have b2_u9 := b2_9.cell0
  have b2_v9 := b2_9.cell1
  have b2_w9 := b2_9.cell2
  have b3_u9 := b3_9.cell0
  have b3_v9 := b3_9.cell1
  have b3_w9 := b3_9.cell2
  go_wp2_with fail
  refine (ryup_b _ _ _ _ _ _ _ P _ HB.out).mono ?_
  rintro e w10 ⟨s10, A10, n10, c10, x10, rfl, y4, b10⟩
  have h_10 := h_9.below b10
  have T_10 := T_9.below b10
  have y1_10 := y1_9.below b10
  have y2_10 := y2_9.below b10
  have y3_10 := y3_9.below b10
  have bx_10 := bx_9.below b10 bx_9.lt
  have b1_10 := b1_9.below b10 b1_9.lt
  have b2_10 := b2_9.below b10 b2_9.lt
  have b3_10 := b3_9.below b10 b3_9.lt
  have F10 := below_then F9 (Nat.le_refl _) b10
  have bx_u10 := bx_10.cell0
  have bx_v10 := bx_10.cell1
  have bx_w10 := bx_10.cell2
  have b1_u10 := b1_10.cell0
  have b1_v10 := b1_10.cell1
  have b1_w10 := b1_10.cell2
  have b2_u10 := b2_10.cell0
  have b2_v10 := b2_10.cell1
  have b2_w10 := b2_10.cell2
  have b3_u10 := b3_10.cell0
  have b3_v10 := b3_10.cell1
  have b3_w10 := b3_10.cell2
  have lt_b4_bx := bx_10.lt
  have lt_b4_b1 := b1_10.lt
  have lt_b4_b2 := b2_10.lt
  have lt_b4_b3 := b3_10.lt
  have h_11 := h_10.alloc (EY s10 A10 n10 c10 x10)
  have T_11 := T_10.alloc (EY s10 A10 n10 c10 x10)
  have y1_11 := y1_10.alloc (EY s10 A10 n10 c10 x10)
  have y2_11 := y2_10.alloc (EY s10 A10 n10 c10 x10)
  have y3_11 := y3_10.alloc (EY s10 A10 n10 c10 x10)
  have y4_11 := y4.alloc (EY s10 A10 n10 c10 x10)
  have bx_11 := bx_10.alloc (EY s10 A10 n10 c10 x10)
  have b1_11 := b1_10.alloc (EY s10 A10 n10 c10 x10)
  have b2_11 := b2_10.alloc (EY s10 A10 n10 c10 x10)
  have b3_11 := b3_10.alloc (EY s10 A10 n10 c10 x10)
  have b4_11 : Sy ((w10).alloc (EY s10 A10 n10 c10 x10)) (w10.heap.size) (.bool s10) (.slice A10 n10 c10) (.int .i64 x10) := by have h_ := Sy.new (w10) (.bool s10) (.slice A10 n10 c10) (.int .i64 x10); exact h_
  have F11 := F10.alloc F10.size (EY s10 A10 n10 c10 x10)
  have bx_u11 := bx_11.cell0
  have bx_v11 := bx_11.cell1
  have bx_w11 := bx_11.cell2
  have b1_u11 := b1_11.cell0
  have b1_v11 := b1_11.cell1
  have b1_w11 := b1_11.cell2
  have b2_u11 := b2_11.cell0
  have b2_v11 := b2_11.cell1
  have b2_w11 := b2_11.cell2
  have b3_u11 := b3_11.cell0
  have b3_v11 := b3_11.cell1
  have b3_w11 := b3_11.cell2
  have b4_u11 := b4_11.cell0
  have b4_v11 := b4_11.cell1
  have b4_w11 := b4_11.cell2
  go_wp2_with fail
  refine (rneg_q _ _ _ _ _ _ _ q _ h_11 n3 m3).mono ?_
  rintro e w12 ⟨s12, A12, n12, c12, B12, m12, d12, rfl, nx, b12⟩
  have h_12 := h_11.below b12
  have T_12 := T_11.below b12
  have y1_12 := y1_11.below b12
  have y2_12 := y2_11.below b12
  have y3_12 := y3_11.below b12
  have y4_12 := y4_11.below b12
  have bx_12 := bx_11.below b12 bx_11.lt
  have b1_12 := b1_11.below b12 b1_11.lt
  have b2_12 := b2_11.below b12 b2_11.lt
  have b3_12 := b3_11.below b12 b3_11.lt
  have b4_12 := b4_11.below b12 b4_11.lt
  have F12 := below_then F11 (Nat.le_refl _) b12
  have bx_u12 := bx_12.cell0
  have bx_v12 := bx_12.cell1
  have bx_w12 := bx_12.cell2
  have b1_u12 := b1_12.cell0
  have b1_v12 := b1_12.cell1
  have b1_w12 := b1_12.cell2
  have b2_u12 := b2_12.cell0
  have b2_v12 := b2_12.cell1
  have b2_w12 := b2_12.cell2
  have b3_u12 := b3_12.cell0
  have b3_v12 := b3_12.cell1
  have b3_w12 := b3_12.cell2
  have b4_u12 := b4_12.cell0
  have b4_v12 := b4_12.cell1
  have b4_w12 := b4_12.cell2
  have nn := nx.ln hs1
  have mm := nx.ld hs2
  go_wp2_with fail
  refine (ydown_b _ _ _ _ _ _ _ P (-q) _ nx.iq nn mm HB.out).mono ?_
  rintro e w13 ⟨s13, A13, n13, c13, x13, rfl, y5, b13⟩
  have T_13 := T_12.below b13
  have y1_13 := y1_12.below b13
  have y2_13 := y2_12.below b13
  have y3_13 := y3_12.below b13
  have y4_13 := y4_12.below b13
  have nx_13 := nx.below b13
  have bx_13 := bx_12.below b13 bx_12.lt
  have b1_13 := b1_12.below b13 b1_12.lt
  have b2_13 := b2_12.below b13 b2_12.lt
  have b3_13 := b3_12.below b13 b3_12.lt
  have b4_13 := b4_12.below b13 b4_12.lt
  have F13 := below_then F12 (Nat.le_refl _) b13
  have bx_u13 := bx_13.cell0
  have bx_v13 := bx_13.cell1
  have bx_w13 := bx_13.cell2
  have b1_u13 := b1_13.cell0
  have b1_v13 := b1_13.cell1
  have b1_w13 := b1_13.cell2
  have b2_u13 := b2_13.cell0
  have b2_v13 := b2_13.cell1
  have b2_w13 := b2_13.cell2
  have b3_u13 := b3_13.cell0
  have b3_v13 := b3_13.cell1
  have b3_w13 := b3_13.cell2
  have b4_u13 := b4_13.cell0
  have b4_v13 := b4_13.cell1
  have b4_w13 := b4_13.cell2
  have lt_b5_bx := bx_13.lt
  have lt_b5_b1 := b1_13.lt
  have lt_b5_b2 := b2_13.lt
  have lt_b5_b3 := b3_13.lt
  have lt_b5_b4 := b4_13.lt
  have T_14 := T_13.alloc (EY s13 A13 n13 c13 x13)
  have y1_14 := y1_13.alloc (EY s13 A13 n13 c13 x13)
  have y2_14 := y2_13.alloc (EY s13 A13 n13 c13 x13)
  have y3_14 := y3_13.alloc (EY s13 A13 n13 c13 x13)
  have y4_14 := y4_13.alloc (EY s13 A13 n13 c13 x13)
  have nx_14 := nx_13.alloc (EY s13 A13 n13 c13 x13)
  have y5_14 := y5.alloc (EY s13 A13 n13 c13 x13)
  have bx_14 := bx_13.alloc (EY s13 A13 n13 c13 x13)
  have b1_14 := b1_13.alloc (EY s13 A13 n13 c13 x13)
  have b2_14 := b2_13.alloc (EY s13 A13 n13 c13 x13)
  have b3_14 := b3_13.alloc (EY s13 A13 n13 c13 x13)
  have b4_14 := b4_13.alloc (EY s13 A13 n13 c13 x13)
  have b5_14 : Sy ((w13).alloc (EY s13 A13 n13 c13 x13)) (w13.heap.size) (.bool s13) (.slice A13 n13 c13) (.int .i64 x13) := by have h_ := Sy.new (w13) (.bool s13) (.slice A13 n13 c13) (.int .i64 x13); exact h_
  have F14 := F13.alloc F13.size (EY s13 A13 n13 c13 x13)
  have bx_u14 := bx_14.cell0
  have bx_v14 := bx_14.cell1
  have bx_w14 := bx_14.cell2
  have b1_u14 := b1_14.cell0
  have b1_v14 := b1_14.cell1
  have b1_w14 := b1_14.cell2
  have b2_u14 := b2_14.cell0
  have b2_v14 := b2_14.cell1
  have b2_w14 := b2_14.cell2
  have b3_u14 := b3_14.cell0
  have b3_v14 := b3_14.cell1
  have b3_w14 := b3_14.cell2
  have b4_u14 := b4_14.cell0
  have b4_v14 := b4_14.cell1
  have b4_w14 := b4_14.cell2
  have b5_u14 := b5_14.cell0
  have b5_v14 := b5_14.cell1
  have b5_w14 := b5_14.cell2
  have l1_ := Nat.le_trans (y1_14.ln lz) k1
  have l2_ := Nat.le_trans (y2_14.ln lz) k1
  have l3_ := Nat.le_trans (y3_14.ln lz) k1
  have l4_ := Nat.le_trans (y4_14.ln lz) k1
  go_wp2_with fail
  have y1_15 := y1_14.drew
  have y2_15 := y2_14.drew
  have y3_15 := y3_14.drew
  have y4_15 := y4_14.drew
  have y5_15 := y5_14.drew
  have b1_15 := b1_14.drew
  have b2_15 := b2_14.drew
  have b3_15 := b3_14.drew
  have b4_15 := b4_14.drew
  have b5_15 := b5_14.drew
  have F15 := F14.drew
  refine wp_region_held_drew (S := fun w' => w'.cell? ⟨w4.heap.size, 0, none⟩ = some (.bool s4) ∧ w'.cell? ⟨w4.heap.size, 1, none⟩ = some (.slice A4 n4 c4) ∧ w'.cell? ⟨w4.heap.size, 2, none⟩ = some (.int .i64 x4) ∧ w'.cell? ⟨w6.heap.size, 0, none⟩ = some (.bool s6) ∧ w'.cell? ⟨w6.heap.size, 1, none⟩ = some (.slice A6 n6 c6) ∧ w'.cell? ⟨w6.heap.size, 2, none⟩ = some (.int .i64 x6) ∧ w'.cell? ⟨w8.heap.size, 0, none⟩ = some (.bool s8) ∧ w'.cell? ⟨w8.heap.size, 1, none⟩ = some (.slice A8 n8 c8) ∧ w'.cell? ⟨w8.heap.size, 2, none⟩ = some (.int .i64 x8) ∧ w'.cell? ⟨w10.heap.size, 0, none⟩ = some (.bool s10) ∧ w'.cell? ⟨w10.heap.size, 1, none⟩ = some (.slice A10 n10 c10) ∧ w'.cell? ⟨w10.heap.size, 2, none⟩ = some (.int .i64 x10)) (by kernel_rfl) ?_ (fun hHeld => ?_)
  · (try dsimp only); exact ⟨b1_15.cell0, b1_15.cell1, b1_15.cell2, b2_15.cell0, b2_15.cell1, b2_15.cell2, b3_15.cell0, b3_15.cell1, b3_15.cell2, b4_15.cell0, b4_15.cell1, b4_15.cell2⟩
  refine wpAnyH_take (i := 0) (v := ?_) rfl (by kernel_rfl) (by kernel_rfl) (by kernel_rfl) (fun _ _ _ h => h) (Or.inl ⟨by rfl, ?_⟩) (by assumption) ?_
  rotate_left 1
  · (intro w9 hSw; (try dsimp only at hSw); go_simp; try with_reducible rfl)
  try simp only [Act.put, List.getElem_toArray, List.getElem_cons_succ, List.getElem_cons_zero, List.setIfInBounds_toArray, List.set_cons_zero, List.set_cons_succ]
  refine wpAnyH_take (i := 1) (v := ?_) rfl (by kernel_rfl) (by kernel_rfl) (by kernel_rfl) (fun _ _ _ h => h) (Or.inl ⟨by rfl, ?_⟩) (by assumption) ?_
  rotate_left 1
  · (intro w9 hSw; (try dsimp only at hSw); go_simp; try with_reducible rfl)
  try simp only [Act.put, List.getElem_toArray, List.getElem_cons_succ, List.getElem_cons_zero, List.setIfInBounds_toArray, List.set_cons_zero, List.set_cons_succ]
  refine wpAnyH_take (i := 2) (v := ?_) rfl (by kernel_rfl) (by kernel_rfl) (by kernel_rfl) (fun _ _ _ h => h) (Or.inl ⟨by rfl, ?_⟩) (by assumption) ?_
  rotate_left 1
  · (intro w9 hSw; (try dsimp only at hSw); go_simp; try with_reducible rfl)
  try simp only [Act.put, List.getElem_toArray, List.getElem_cons_succ, List.getElem_cons_zero, List.setIfInBounds_toArray, List.set_cons_zero, List.set_cons_succ]
  refine wpAnyH_take (i := 3) (v := ?_) rfl (by kernel_rfl) (by kernel_rfl) (by kernel_rfl) (fun _ _ _ h => h) (Or.inl ⟨by rfl, ?_⟩) (by assumption) ?_
  rotate_left 1
  · (intro w9 hSw; (try dsimp only at hSw); go_simp; try with_reducible rfl)
  try simp only [Act.put, List.getElem_toArray, List.getElem_cons_succ, List.getElem_cons_zero, List.setIfInBounds_toArray, List.set_cons_zero, List.set_cons_succ]
  refine wpAnyH_take (i := 4) (v := ?_) rfl (by kernel_rfl) (by kernel_rfl) (by kernel_rfl) (fun _ _ _ h => h) (Or.inl ⟨by rfl, ?_⟩) (by assumption) ?_
  rotate_left 1
  · (intro w9 hSw; (try dsimp only at hSw); go_simp; try with_reducible rfl)
  try simp only [Act.put, List.getElem_toArray, List.getElem_cons_succ, List.getElem_cons_zero, List.setIfInBounds_toArray, List.set_cons_zero, List.set_cons_succ]
  refine wpAnyH_take (i := 5) (v := ?_) rfl (by kernel_rfl) (by kernel_rfl) (by kernel_rfl) (fun _ _ _ h => h) (Or.inl ⟨by rfl, ?_⟩) (by assumption) ?_
  rotate_left 1
  · (intro w9 hSw; (try dsimp only at hSw); go_simp; try with_reducible rfl)
  try simp only [Act.put, List.getElem_toArray, List.getElem_cons_succ, List.getElem_cons_zero, List.setIfInBounds_toArray, List.set_cons_zero, List.set_cons_succ]
  refine wpAnyH_take (i := 6) (v := ?_) rfl (by kernel_rfl) (by kernel_rfl) (by kernel_rfl) (fun _ _ _ h => h) (Or.inl ⟨by rfl, ?_⟩) (by assumption) ?_
  rotate_left 1
  · (intro w9 hSw; (try dsimp only at hSw); go_simp; try with_reducible rfl)
  try simp only [Act.put, List.getElem_toArray, List.getElem_cons_succ, List.getElem_cons_zero, List.setIfInBounds_toArray, List.set_cons_zero, List.set_cons_succ]
  refine wpAnyH_take (i := 7) (v := ?_) rfl (by kernel_rfl) (by kernel_rfl) (by kernel_rfl) (fun _ _ _ h => h) (Or.inl ⟨by rfl, ?_⟩) (by assumption) ?_
  rotate_left 1
  · (intro w9 hSw; (try dsimp only at hSw); go_simp; try with_reducible rfl)
  try simp only [Act.put, List.getElem_toArray, List.getElem_cons_succ, List.getElem_cons_zero, List.setIfInBounds_toArray, List.set_cons_zero, List.set_cons_succ]
  refine wpAnyH_take (i := 8) (v := ?_) rfl (by kernel_rfl) (by kernel_rfl) (by kernel_rfl) (fun _ _ _ h => h) (Or.inl ⟨by rfl, ?_⟩) (by assumption) ?_
  rotate_left 1
  · (intro w9 hSw; (try dsimp only at hSw); go_simp; try with_reducible rfl)
  try simp only [Act.put, List.getElem_toArray, List.getElem_cons_succ, List.getElem_cons_zero, List.setIfInBounds_toArray, List.set_cons_zero, List.set_cons_succ]
  refine wpAnyH_take (i := 9) (v := ?_) rfl (by kernel_rfl) (by kernel_rfl) (by kernel_rfl) (fun _ _ _ h => h) (Or.inl ⟨by rfl, ?_⟩) (by assumption) ?_
  rotate_left 1
  · (intro w9 hSw; (try dsimp only at hSw); go_simp; try with_reducible rfl)
  try simp only [Act.put, List.getElem_toArray, List.getElem_cons_succ, List.getElem_cons_zero, List.setIfInBounds_toArray, List.set_cons_zero, List.set_cons_succ]
  refine wpAnyH_take (i := 10) (v := ?_) rfl (by kernel_rfl) (by kernel_rfl) (by kernel_rfl) (fun _ _ _ h => h) (Or.inl ⟨by rfl, ?_⟩) (by assumption) ?_
  rotate_left 1
  · (intro w9 hSw; (try dsimp only at hSw); go_simp; try with_reducible rfl)
  try simp only [Act.put, List.getElem_toArray, List.getElem_cons_succ, List.getElem_cons_zero, List.setIfInBounds_toArray, List.set_cons_zero, List.set_cons_succ]
  refine wpAnyH_take (i := 11) (v := ?_) rfl (by kernel_rfl) (by kernel_rfl) (by kernel_rfl) (fun _ _ _ h => h) (Or.inl ⟨by rfl, ?_⟩) (by assumption) ?_
  rotate_left 1
  · (intro w9 hSw; (try dsimp only at hSw); go_simp; try with_reducible rfl)
  try simp only [Act.put, List.getElem_toArray, List.getElem_cons_succ, List.getElem_cons_zero, List.setIfInBounds_toArray, List.set_cons_zero, List.set_cons_succ]
  refine wpAnyH_take (i := 12) (v := ?_) rfl (by kernel_rfl) (by kernel_rfl) (by kernel_rfl) (fun _ _ _ h => h) (Or.inl ⟨by rfl, ?_⟩) (by assumption) ?_
  rotate_left 1
  · (intro w9 hSw; (try dsimp only at hSw); go_simp; try with_reducible rfl)
  try simp only [Act.put, List.getElem_toArray, List.getElem_cons_succ, List.getElem_cons_zero, List.setIfInBounds_toArray, List.set_cons_zero, List.set_cons_succ]
  refine wpAnyH_take (i := 13) (v := ?_) rfl (by kernel_rfl) (by kernel_rfl) (by kernel_rfl) (fun _ _ _ h => h) (Or.inl ⟨by rfl, ?_⟩) (by assumption) ?_
  rotate_left 1
  · (intro w9 hSw; (try dsimp only at hSw); go_simp; try with_reducible rfl)
  try simp only [Act.put, List.getElem_toArray, List.getElem_cons_succ, List.getElem_cons_zero, List.setIfInBounds_toArray, List.set_cons_zero, List.set_cons_succ]
  refine wpAnyH_take (i := 14) (v := ?_) rfl (by kernel_rfl) (by kernel_rfl) (by kernel_rfl) (fun _ _ _ h => h) (Or.inl ⟨by rfl, ?_⟩) (by assumption) ?_
  rotate_left 1
  · (intro w9 hSw; (try dsimp only at hSw); go_simp; try with_reducible rfl)
  try simp only [Act.put, List.getElem_toArray, List.getElem_cons_succ, List.getElem_cons_zero, List.setIfInBounds_toArray, List.set_cons_zero, List.set_cons_succ]
  refine wpAnyH_take (i := 15) (v := ?_) rfl (by kernel_rfl) (by kernel_rfl) (by kernel_rfl) (fun _ _ _ h => h) (Or.inl ⟨by rfl, ?_⟩) (by assumption) ?_
  rotate_left 1
  · (intro w9 hSw; (try dsimp only at hSw); go_simp; try with_reducible rfl)
  try simp only [Act.put, List.getElem_toArray, List.getElem_cons_succ, List.getElem_cons_zero, List.setIfInBounds_toArray, List.set_cons_zero, List.set_cons_succ]
  refine wpAnyH_ready (rs := [16]) (by kernel_rfl) (by simp) ?_
  refine AllReadyH.cons rfl (fun K hK => ?_) AllReadyH.nil
  go_simp
  go_at_call 14
  with_reducible refine (rysame_q _ _ _ _ _ _ _ _ _ _ 0 _ y1_15 y3_15 l1_ l3_).mono ?_
  rintro e w16 ⟨rfl, b16⟩
  have y1_16 := y1_15.below b16
  have y2_16 := y2_15.below b16
  have y3_16 := y3_15.below b16
  have y4_16 := y4_15.below b16
  have y5_16 := y5_15.below b16
  have b1_16 := b1_15.below b16 b1_15.lt
  have b2_16 := b2_15.below b16 b2_15.lt
  have b3_16 := b3_15.below b16 b3_15.lt
  have b4_16 := b4_15.below b16 b4_15.lt
  have b5_16 := b5_15.below b16 b5_15.lt
  have F16 := below_then F15 (Nat.le_refl _) b16
  try dsimp only
  refine hK.out _ _ ?_ (fun hHeld => ?_)
  · (try dsimp only); exact ⟨b1_16.cell0, b1_16.cell1, b1_16.cell2, b2_16.cell0, b2_16.cell1, b2_16.cell2, b3_16.cell0, b3_16.cell1, b3_16.cell2, b4_16.cell0, b4_16.cell1, b4_16.cell2⟩
  clear hK K
  try simp only [Act.put, List.getElem_toArray, List.getElem_cons_succ, List.getElem_cons_zero, List.setIfInBounds_toArray, List.set_cons_zero, List.set_cons_succ]
  refine wpAnyH_take (i := 17) (v := ?_) rfl (by kernel_rfl) (by kernel_rfl) (by kernel_rfl) (fun _ _ _ h => h) (Or.inl ⟨by rfl, ?_⟩) (by assumption) ?_
  rotate_left 1
  · (intro w9 hSw; (try dsimp only at hSw); go_simp; try with_reducible rfl)
  try simp only [Act.put, List.getElem_toArray, List.getElem_cons_succ, List.getElem_cons_zero, List.setIfInBounds_toArray, List.set_cons_zero, List.set_cons_succ]
  refine wpAnyH_take (i := 18) (v := ?_) rfl (by kernel_rfl) (by kernel_rfl) (by kernel_rfl) (fun _ _ _ h => h) (Or.inl ⟨by rfl, ?_⟩) (by assumption) ?_
  rotate_left 1
  · (intro w9 hSw; (try dsimp only at hSw); go_simp; try with_reducible rfl)
  try simp only [Act.put, List.getElem_toArray, List.getElem_cons_succ, List.getElem_cons_zero, List.setIfInBounds_toArray, List.set_cons_zero, List.set_cons_succ]
  refine wpAnyH_take (i := 19) (v := ?_) rfl (by kernel_rfl) (by kernel_rfl) (by kernel_rfl) (fun _ _ _ h => h) (Or.inl ⟨by rfl, ?_⟩) (by assumption) ?_
  rotate_left 1
  · (intro w9 hSw; (try dsimp only at hSw); go_simp; try with_reducible rfl)
  try simp only [Act.put, List.getElem_toArray, List.getElem_cons_succ, List.getElem_cons_zero, List.setIfInBounds_toArray, List.set_cons_zero, List.set_cons_succ]
  refine wpAnyH_take (i := 20) (v := ?_) rfl (by kernel_rfl) (by kernel_rfl) (by kernel_rfl) (fun _ _ _ h => h) (Or.inl ⟨by rfl, ?_⟩) (by assumption) ?_
  rotate_left 1
  · (intro w9 hSw; (try dsimp only at hSw); go_simp; try with_reducible rfl)
  try simp only [Act.put, List.getElem_toArray, List.getElem_cons_succ, List.getElem_cons_zero, List.setIfInBounds_toArray, List.set_cons_zero, List.set_cons_succ]
  refine wpAnyH_ready (rs := [21]) (by kernel_rfl) (by simp) ?_
  refine AllReadyH.cons rfl (fun K hK => ?_) AllReadyH.nil
  go_simp
  go_at_call 14
  with_reducible refine (rysame_q _ _ _ _ _ _ _ _ _ _ 0 _ y2_16 y4_16 l2_ l4_).mono ?_
  rintro e w17 ⟨rfl, b17⟩
  have y1_17 := y1_16.below b17
  have y2_17 := y2_16.below b17
  have y3_17 := y3_16.below b17
  have y4_17 := y4_16.below b17
  have y5_17 := y5_16.below b17
  have b1_17 := b1_16.below b17 b1_16.lt
  have b2_17 := b2_16.below b17 b2_16.lt
  have b3_17 := b3_16.below b17 b3_16.lt
  have b4_17 := b4_16.below b17 b4_16.lt
  have b5_17 := b5_16.below b17 b5_16.lt
  have F17 := below_then F16 (Nat.le_refl _) b17
  try dsimp only
  refine hK.out _ _ ?_ (fun hHeld => ?_)
  · (try dsimp only); exact ⟨b1_17.cell0, b1_17.cell1, b1_17.cell2, b2_17.cell0, b2_17.cell1, b2_17.cell2, b3_17.cell0, b3_17.cell1, b3_17.cell2, b4_17.cell0, b4_17.cell1, b4_17.cell2⟩
  clear hK K
  try simp only [Act.put, List.getElem_toArray, List.getElem_cons_succ, List.getElem_cons_zero, List.setIfInBounds_toArray, List.set_cons_zero, List.set_cons_succ]
  refine wpAnyH_take (i := 22) (v := ?_) rfl (by kernel_rfl) (by kernel_rfl) (by kernel_rfl) (fun _ _ _ h => h) (Or.inl ⟨by rfl, ?_⟩) (by assumption) ?_
  rotate_left 1
  · (intro w9 hSw; (try dsimp only at hSw); go_simp; try with_reducible rfl)
  try simp only [Act.put, List.getElem_toArray, List.getElem_cons_succ, List.getElem_cons_zero, List.setIfInBounds_toArray, List.set_cons_zero, List.set_cons_succ]
  refine wpAnyH_take (i := 23) (v := ?_) rfl (by kernel_rfl) (by kernel_rfl) (by kernel_rfl) (fun _ _ _ h => h) (Or.inl ⟨by rfl, ?_⟩) (by assumption) ?_
  rotate_left 1
  · (intro w9 hSw; (try dsimp only at hSw); go_simp; try with_reducible rfl)
  try simp only [Act.put, List.getElem_toArray, List.getElem_cons_succ, List.getElem_cons_zero, List.setIfInBounds_toArray, List.set_cons_zero, List.set_cons_succ]
  refine wpAnyH_take (i := 24) (v := ?_) rfl (by kernel_rfl) (by kernel_rfl) (by kernel_rfl) (fun _ _ _ h => h) (Or.inl ⟨by rfl, ?_⟩) (by assumption) ?_
  rotate_left 1
  · (intro w9 hSw; (try dsimp only at hSw); go_simp; try with_reducible rfl)
  try simp only [Act.put, List.getElem_toArray, List.getElem_cons_succ, List.getElem_cons_zero, List.setIfInBounds_toArray, List.set_cons_zero, List.set_cons_succ]
  refine wpAnyH_take (i := 25) (v := ?_) rfl (by kernel_rfl) (by kernel_rfl) (by kernel_rfl) (fun _ _ _ h => h) (Or.inl ⟨by rfl, ?_⟩) (by assumption) ?_
  rotate_left 1
  · (intro w9 hSw; (try dsimp only at hSw); go_simp; try with_reducible rfl)
  try simp only [Act.put, List.getElem_toArray, List.getElem_cons_succ, List.getElem_cons_zero, List.setIfInBounds_toArray, List.set_cons_zero, List.set_cons_succ]
  refine wpAnyH_take (i := 26) (v := ?_) rfl (by kernel_rfl) (by kernel_rfl) (by kernel_rfl) (fun _ _ _ h => h) (Or.inl ⟨by rfl, ?_⟩) (by assumption) ?_
  rotate_left 1
  · (intro w9 hSw; (try dsimp only at hSw); go_simp; try with_reducible rfl)
  try simp only [Act.put, List.getElem_toArray, List.getElem_cons_succ, List.getElem_cons_zero, List.setIfInBounds_toArray, List.set_cons_zero, List.set_cons_succ]
  refine wpAnyH_take (i := 27) (v := undef) rfl (by kernel_rfl) (by kernel_rfl) (by kernel_rfl) (fun _ _ _ h => h) (Or.inr ⟨by rfl, rfl⟩) (by assumption) ?_
  try simp only [Act.put, List.getElem_toArray, List.getElem_cons_succ, List.getElem_cons_zero, List.setIfInBounds_toArray, List.set_cons_zero, List.set_cons_succ]
  refine wpAnyH_take (i := 28) (v := undef) rfl (by kernel_rfl) (by kernel_rfl) (by kernel_rfl) (fun _ _ _ h => h) (Or.inr ⟨by rfl, rfl⟩) (by assumption) ?_
  try simp only [Act.put, List.getElem_toArray, List.getElem_cons_succ, List.getElem_cons_zero, List.setIfInBounds_toArray, List.set_cons_zero, List.set_cons_succ]
  refine wpAnyH_take (i := 29) (v := undef) rfl (by kernel_rfl) (by kernel_rfl) (by kernel_rfl) (fun _ _ _ h => h) (Or.inr ⟨by rfl, rfl⟩) (by assumption) ?_
  try simp only [Act.put, List.getElem_toArray, List.getElem_cons_succ, List.getElem_cons_zero, List.setIfInBounds_toArray, List.set_cons_zero, List.set_cons_succ]
  refine wpAnyH_take (i := 30) (v := undef) rfl (by kernel_rfl) (by kernel_rfl) (by kernel_rfl) (fun _ _ _ h => h) (Or.inr ⟨by rfl, rfl⟩) (by assumption) ?_
  try simp only [Act.put, List.getElem_toArray, List.getElem_cons_succ, List.getElem_cons_zero, List.setIfInBounds_toArray, List.set_cons_zero, List.set_cons_succ]
  refine wpAnyH_take (i := 31) (v := ?_) rfl (by kernel_rfl) (by kernel_rfl) (by kernel_rfl) (fun _ _ _ h => h) (Or.inl ⟨by rfl, ?_⟩) (by assumption) ?_
  rotate_left 1
  · (intro w9 hSw; (try dsimp only at hSw); go_simp; try with_reducible rfl)
  try simp only [Act.put, List.getElem_toArray, List.getElem_cons_succ, List.getElem_cons_zero, List.setIfInBounds_toArray, List.set_cons_zero, List.set_cons_succ]
  refine wpAnyH_take (i := 32) (v := ?_) rfl (by kernel_rfl) (by kernel_rfl) (by kernel_rfl) (fun _ _ _ h => h) (Or.inl ⟨by rfl, ?_⟩) (by assumption) ?_
  rotate_left 1
  · (intro w9 hSw; (try dsimp only at hSw); go_simp; try with_reducible rfl)
  try simp only [Act.put, List.getElem_toArray, List.getElem_cons_succ, List.getElem_cons_zero, List.setIfInBounds_toArray, List.set_cons_zero, List.set_cons_succ]
  refine wpAnyH_take (i := 33) (v := ?_) rfl (by kernel_rfl) (by kernel_rfl) (by kernel_rfl) (fun _ _ _ h => h) (Or.inl ⟨by rfl, ?_⟩) (by assumption) ?_
  rotate_left 1
  · (intro w9 hSw; (try dsimp only at hSw); go_simp; try with_reducible rfl)
  try simp only [Act.put, List.getElem_toArray, List.getElem_cons_succ, List.getElem_cons_zero, List.setIfInBounds_toArray, List.set_cons_zero, List.set_cons_succ]
  refine wpAnyH_done (by kernel_rfl) ?_ _
  all_goals go_wp2
  all_goals go_ret
  all_goals exact ⟨rfl, F17⟩
set_option maxHeartbeats 4000000 in
theorem dr_yes (s : Bool) (A : Option Addr) (n c : Nat) (B : Option Addr) (m d : Nat) (P : Int) (q : Rat) (w : World) (h : Iq w s A n c B m d q) (hn : n ≤ 3) (hm : m ≤ 3) (h1 : 1 ≤ P) (h2 : P ≤ 200) (T : Tb w) : Calls Tryd.prog 5 #[.agg #[.bool s, .slice A n c, .slice B m d], .int .i64 P] w (fun e w' => e = .returned (.bool true) ∧ Below w.heap.size w w') := by
  have hs : Qs 3 q := h.size hn hm (by omega)
  have hs1 : (-q).num.natAbs < pw 3 := (size_neg hs).1
  have hs2 : (-q).den < pw 3 := (size_neg hs).2
  have n3 : n ≤ 16384 := by omega
  have m3 : m ≤ 16384 := by omega
  have d1 : decide (200 < P) = false := decide_eq_false (by omega)
  obtain ⟨k, hP⟩ : ∃ k : Nat, P = (k : Int) := ⟨P.toNat, by omega⟩
  have hk : 1 ≤ k ∧ k ≤ 200 := by omega
  have lu : dm (tq q k false) < pw 7 := tq_pw false hk.1 (by omega)
  have lv : dm (tq q k true) < pw 7 := tq_pw true hk.1 (by omega)
  have hw := tq_neg q hk.1
  obtain ⟨u, hu⟩ : ∃ u, tq q k false = u := ⟨_, rfl⟩
  obtain ⟨v, hv⟩ : ∃ v, tq q k true = v := ⟨_, rfl⟩
  rw [hu] at lu
  rw [hv] at lv hw
  have lw : dm (-v) < pw 7 := by rw [dm_neg]; exact lv
  have HU := hide hu
  have HV := hide hv
  have HW := hide hw
  have HP := hide hP
  have HK := hide hk
  have HS := hide hs
  have k7 : 7 ≤ 1048576 := by omega
  clear hs h1 h2 hu hv hw hP hk
  have h_1 := h.alloc (EQ s A n c B m d)
  have T_1 := T.alloc (EQ s A n c B m d)
  have bx_1 : Sq ((w).alloc (EQ s A n c B m d)) (w.heap.size) (.bool s) (.slice A n c) (.slice B m d) := by have h_ := Sq.new (w) (.bool s) (.slice A n c) (.slice B m d); exact h_
  have F1 := (Below.refl w.heap.size w).alloc (Nat.le_refl _) (EQ s A n c B m d)
  go_enter Tryd.func5, Tryd.ntmps5
  go_wp2_with fail
  refine (awake5 _ T_1).mono ?_
  rintro e w2 ⟨rfl, b2⟩
  have h_2 := h_1.below b2
  have T_2 := T_1.below b2
  have bx_2 := bx_1.below b2 bx_1.lt
  have F2 := below_then F1 (Nat.le_refl _) b2
  have bx_u2 := bx_2.cell0
  have bx_v2 := bx_2.cell1
  have bx_w2 := bx_2.cell2
  go_wp2_with fail
  refine (few_yes _ _ _ _ _ _ _ _ hn hm).mono ?_
  rintro e w3 ⟨rfl, b3⟩
  have h_3 := h_2.below b3
  have T_3 := T_2.below b3
  have bx_3 := bx_2.below b3 bx_2.lt
  have F3 := below_then F2 (Nat.le_refl _) b3
  have bx_u3 := bx_3.cell0
  have bx_v3 := bx_3.cell1
  have bx_w3 := bx_3.cell2
  go_wp2_with fail
  refine (ydown_at _ _ _ _ _ _ _ k P q u _ HU.out HP.out h_3 hn hm HK.out T_3).mono ?_
  rintro e w4 ⟨s4, A4, n4, c4, x4, rfl, y1, b4⟩
  have h_4 := h_3.below b4
  have T_4 := T_3.below b4
  have bx_4 := bx_3.below b4 bx_3.lt
  have F4 := below_then F3 (Nat.le_refl _) b4
  have bx_u4 := bx_4.cell0
  have bx_v4 := bx_4.cell1
  have bx_w4 := bx_4.cell2
  have lt_b1_bx := bx_4.lt
  have h_5 := h_4.alloc (EY s4 A4 n4 c4 x4)
  have T_5 := T_4.alloc (EY s4 A4 n4 c4 x4)
  have y1_5 := y1.alloc (EY s4 A4 n4 c4 x4)
  have bx_5 := bx_4.alloc (EY s4 A4 n4 c4 x4)
  have b1_5 : Sy ((w4).alloc (EY s4 A4 n4 c4 x4)) (w4.heap.size) (.bool s4) (.slice A4 n4 c4) (.int .i64 x4) := by have h_ := Sy.new (w4) (.bool s4) (.slice A4 n4 c4) (.int .i64 x4); exact h_
  have F5 := F4.alloc F4.size (EY s4 A4 n4 c4 x4)
  have bx_u5 := bx_5.cell0
  have bx_v5 := bx_5.cell1
  have bx_w5 := bx_5.cell2
  have b1_u5 := b1_5.cell0
  have b1_v5 := b1_5.cell1
  have b1_w5 := b1_5.cell2
  go_wp2_with fail
  refine (yup_at _ _ _ _ _ _ _ k P q v _ HV.out HP.out h_5 hn hm HK.out T_5).mono ?_
  rintro e w6 ⟨s6, A6, n6, c6, x6, rfl, y2, b6⟩
  have h_6 := h_5.below b6
  have T_6 := T_5.below b6
  have y1_6 := y1_5.below b6
  have bx_6 := bx_5.below b6 bx_5.lt
  have b1_6 := b1_5.below b6 b1_5.lt
  have F6 := below_then F5 (Nat.le_refl _) b6
  have bx_u6 := bx_6.cell0
  have bx_v6 := bx_6.cell1
  have bx_w6 := bx_6.cell2
  have b1_u6 := b1_6.cell0
  have b1_v6 := b1_6.cell1
  have b1_w6 := b1_6.cell2
  have lt_b2_bx := bx_6.lt
  have lt_b2_b1 := b1_6.lt
  have h_7 := h_6.alloc (EY s6 A6 n6 c6 x6)
  have T_7 := T_6.alloc (EY s6 A6 n6 c6 x6)
  have y1_7 := y1_6.alloc (EY s6 A6 n6 c6 x6)
  have y2_7 := y2.alloc (EY s6 A6 n6 c6 x6)
  have bx_7 := bx_6.alloc (EY s6 A6 n6 c6 x6)
  have b1_7 := b1_6.alloc (EY s6 A6 n6 c6 x6)
  have b2_7 : Sy ((w6).alloc (EY s6 A6 n6 c6 x6)) (w6.heap.size) (.bool s6) (.slice A6 n6 c6) (.int .i64 x6) := by have h_ := Sy.new (w6) (.bool s6) (.slice A6 n6 c6) (.int .i64 x6); exact h_
  have F7 := F6.alloc F6.size (EY s6 A6 n6 c6 x6)
  have bx_u7 := bx_7.cell0
  have bx_v7 := bx_7.cell1
  have bx_w7 := bx_7.cell2
  have b1_u7 := b1_7.cell0
  have b1_v7 := b1_7.cell1
  have b1_w7 := b1_7.cell2
  have b2_u7 := b2_7.cell0
  have b2_v7 := b2_7.cell1
  have b2_w7 := b2_7.cell2
  go_wp2_with fail
  refine (rydown_at _ _ _ _ _ _ _ k P q u _ HU.out HP.out h_7 hn hm HS.out HK.out).mono ?_
  rintro e w8 ⟨s8, A8, n8, c8, x8, rfl, y3, b8⟩
  have h_8 := h_7.below b8
  have T_8 := T_7.below b8
  have y1_8 := y1_7.below b8
  have y2_8 := y2_7.below b8
  have bx_8 := bx_7.below b8 bx_7.lt
  have b1_8 := b1_7.below b8 b1_7.lt
  have b2_8 := b2_7.below b8 b2_7.lt
  have F8 := below_then F7 (Nat.le_refl _) b8
  have bx_u8 := bx_8.cell0
  have bx_v8 := bx_8.cell1
  have bx_w8 := bx_8.cell2
  have b1_u8 := b1_8.cell0
  have b1_v8 := b1_8.cell1
  have b1_w8 := b1_8.cell2
  have b2_u8 := b2_8.cell0
  have b2_v8 := b2_8.cell1
  have b2_w8 := b2_8.cell2
  have lt_b3_bx := bx_8.lt
  have lt_b3_b1 := b1_8.lt
  have lt_b3_b2 := b2_8.lt
  have h_9 := h_8.alloc (EY s8 A8 n8 c8 x8)
  have T_9 := T_8.alloc (EY s8 A8 n8 c8 x8)
  have y1_9 := y1_8.alloc (EY s8 A8 n8 c8 x8)
  have y2_9 := y2_8.alloc (EY s8 A8 n8 c8 x8)
  have y3_9 := y3.alloc (EY s8 A8 n8 c8 x8)
  have bx_9 := bx_8.alloc (EY s8 A8 n8 c8 x8)
  have b1_9 := b1_8.alloc (EY s8 A8 n8 c8 x8)
  have b2_9 := b2_8.alloc (EY s8 A8 n8 c8 x8)
  have b3_9 : Sy ((w8).alloc (EY s8 A8 n8 c8 x8)) (w8.heap.size) (.bool s8) (.slice A8 n8 c8) (.int .i64 x8) := by have h_ := Sy.new (w8) (.bool s8) (.slice A8 n8 c8) (.int .i64 x8); exact h_
  have F9 := F8.alloc F8.size (EY s8 A8 n8 c8 x8)
  have bx_u9 := bx_9.cell0
  have bx_v9 := bx_9.cell1
  have bx_w9 := bx_9.cell2
  have b1_u9 := b1_9.cell0
  have b1_v9 := b1_9.cell1
  have b1_w9 := b1_9.cell2
  have b2_u9 := b2_9.cell0
  have b2_v9 := b2_9.cell1
  have b2_w9 := b2_9.cell2
  have b3_u9 := b3_9.cell0
  have b3_v9 := b3_9.cell1
  have b3_w9 := b3_9.cell2
  go_wp2_with fail
  refine (ryup_at _ _ _ _ _ _ _ k P q v _ HV.out HP.out h_9 hn hm HS.out HK.out).mono ?_
  rintro e w10 ⟨s10, A10, n10, c10, x10, rfl, y4, b10⟩
  have h_10 := h_9.below b10
  have T_10 := T_9.below b10
  have y1_10 := y1_9.below b10
  have y2_10 := y2_9.below b10
  have y3_10 := y3_9.below b10
  have bx_10 := bx_9.below b10 bx_9.lt
  have b1_10 := b1_9.below b10 b1_9.lt
  have b2_10 := b2_9.below b10 b2_9.lt
  have b3_10 := b3_9.below b10 b3_9.lt
  have F10 := below_then F9 (Nat.le_refl _) b10
  have bx_u10 := bx_10.cell0
  have bx_v10 := bx_10.cell1
  have bx_w10 := bx_10.cell2
  have b1_u10 := b1_10.cell0
  have b1_v10 := b1_10.cell1
  have b1_w10 := b1_10.cell2
  have b2_u10 := b2_10.cell0
  have b2_v10 := b2_10.cell1
  have b2_w10 := b2_10.cell2
  have b3_u10 := b3_10.cell0
  have b3_v10 := b3_10.cell1
  have b3_w10 := b3_10.cell2
  have lt_b4_bx := bx_10.lt
  have lt_b4_b1 := b1_10.lt
  have lt_b4_b2 := b2_10.lt
  have lt_b4_b3 := b3_10.lt
  have h_11 := h_10.alloc (EY s10 A10 n10 c10 x10)
  have T_11 := T_10.alloc (EY s10 A10 n10 c10 x10)
  have y1_11 := y1_10.alloc (EY s10 A10 n10 c10 x10)
  have y2_11 := y2_10.alloc (EY s10 A10 n10 c10 x10)
  have y3_11 := y3_10.alloc (EY s10 A10 n10 c10 x10)
  have y4_11 := y4.alloc (EY s10 A10 n10 c10 x10)
  have bx_11 := bx_10.alloc (EY s10 A10 n10 c10 x10)
  have b1_11 := b1_10.alloc (EY s10 A10 n10 c10 x10)
  have b2_11 := b2_10.alloc (EY s10 A10 n10 c10 x10)
  have b3_11 := b3_10.alloc (EY s10 A10 n10 c10 x10)
  have b4_11 : Sy ((w10).alloc (EY s10 A10 n10 c10 x10)) (w10.heap.size) (.bool s10) (.slice A10 n10 c10) (.int .i64 x10) := by have h_ := Sy.new (w10) (.bool s10) (.slice A10 n10 c10) (.int .i64 x10); exact h_
  have F11 := F10.alloc F10.size (EY s10 A10 n10 c10 x10)
  have bx_u11 := bx_11.cell0
  have bx_v11 := bx_11.cell1
  have bx_w11 := bx_11.cell2
  have b1_u11 := b1_11.cell0
  have b1_v11 := b1_11.cell1
  have b1_w11 := b1_11.cell2
  have b2_u11 := b2_11.cell0
  have b2_v11 := b2_11.cell1
  have b2_w11 := b2_11.cell2
  have b3_u11 := b3_11.cell0
  have b3_v11 := b3_11.cell1
  have b3_w11 := b3_11.cell2
  have b4_u11 := b4_11.cell0
  have b4_v11 := b4_11.cell1
  have b4_w11 := b4_11.cell2
  go_wp2_with fail
  refine (rneg_q _ _ _ _ _ _ _ q _ h_11 n3 m3).mono ?_
  rintro e w12 ⟨s12, A12, n12, c12, B12, m12, d12, rfl, nx, b12⟩
  have h_12 := h_11.below b12
  have T_12 := T_11.below b12
  have y1_12 := y1_11.below b12
  have y2_12 := y2_11.below b12
  have y3_12 := y3_11.below b12
  have y4_12 := y4_11.below b12
  have bx_12 := bx_11.below b12 bx_11.lt
  have b1_12 := b1_11.below b12 b1_11.lt
  have b2_12 := b2_11.below b12 b2_11.lt
  have b3_12 := b3_11.below b12 b3_11.lt
  have b4_12 := b4_11.below b12 b4_11.lt
  have F12 := below_then F11 (Nat.le_refl _) b12
  have bx_u12 := bx_12.cell0
  have bx_v12 := bx_12.cell1
  have bx_w12 := bx_12.cell2
  have b1_u12 := b1_12.cell0
  have b1_v12 := b1_12.cell1
  have b1_w12 := b1_12.cell2
  have b2_u12 := b2_12.cell0
  have b2_v12 := b2_12.cell1
  have b2_w12 := b2_12.cell2
  have b3_u12 := b3_12.cell0
  have b3_v12 := b3_12.cell1
  have b3_w12 := b3_12.cell2
  have b4_u12 := b4_12.cell0
  have b4_v12 := b4_12.cell1
  have b4_w12 := b4_12.cell2
  have nn := nx.ln hs1
  have mm := nx.ld hs2
  go_wp2_with fail
  refine (ydown_at _ _ _ _ _ _ _ k P (-q) (-v) _ HW.out HP.out nx.iq nn mm HK.out T_12).mono ?_
  rintro e w13 ⟨s13, A13, n13, c13, x13, rfl, y5, b13⟩
  have T_13 := T_12.below b13
  have y1_13 := y1_12.below b13
  have y2_13 := y2_12.below b13
  have y3_13 := y3_12.below b13
  have y4_13 := y4_12.below b13
  have nx_13 := nx.below b13
  have bx_13 := bx_12.below b13 bx_12.lt
  have b1_13 := b1_12.below b13 b1_12.lt
  have b2_13 := b2_12.below b13 b2_12.lt
  have b3_13 := b3_12.below b13 b3_12.lt
  have b4_13 := b4_12.below b13 b4_12.lt
  have F13 := below_then F12 (Nat.le_refl _) b13
  have bx_u13 := bx_13.cell0
  have bx_v13 := bx_13.cell1
  have bx_w13 := bx_13.cell2
  have b1_u13 := b1_13.cell0
  have b1_v13 := b1_13.cell1
  have b1_w13 := b1_13.cell2
  have b2_u13 := b2_13.cell0
  have b2_v13 := b2_13.cell1
  have b2_w13 := b2_13.cell2
  have b3_u13 := b3_13.cell0
  have b3_v13 := b3_13.cell1
  have b3_w13 := b3_13.cell2
  have b4_u13 := b4_13.cell0
  have b4_v13 := b4_13.cell1
  have b4_w13 := b4_13.cell2
  have lt_b5_bx := bx_13.lt
  have lt_b5_b1 := b1_13.lt
  have lt_b5_b2 := b2_13.lt
  have lt_b5_b3 := b3_13.lt
  have lt_b5_b4 := b4_13.lt
  have T_14 := T_13.alloc (EY s13 A13 n13 c13 x13)
  have y1_14 := y1_13.alloc (EY s13 A13 n13 c13 x13)
  have y2_14 := y2_13.alloc (EY s13 A13 n13 c13 x13)
  have y3_14 := y3_13.alloc (EY s13 A13 n13 c13 x13)
  have y4_14 := y4_13.alloc (EY s13 A13 n13 c13 x13)
  have nx_14 := nx_13.alloc (EY s13 A13 n13 c13 x13)
  have y5_14 := y5.alloc (EY s13 A13 n13 c13 x13)
  have bx_14 := bx_13.alloc (EY s13 A13 n13 c13 x13)
  have b1_14 := b1_13.alloc (EY s13 A13 n13 c13 x13)
  have b2_14 := b2_13.alloc (EY s13 A13 n13 c13 x13)
  have b3_14 := b3_13.alloc (EY s13 A13 n13 c13 x13)
  have b4_14 := b4_13.alloc (EY s13 A13 n13 c13 x13)
  have b5_14 : Sy ((w13).alloc (EY s13 A13 n13 c13 x13)) (w13.heap.size) (.bool s13) (.slice A13 n13 c13) (.int .i64 x13) := by have h_ := Sy.new (w13) (.bool s13) (.slice A13 n13 c13) (.int .i64 x13); exact h_
  have F14 := F13.alloc F13.size (EY s13 A13 n13 c13 x13)
  have bx_u14 := bx_14.cell0
  have bx_v14 := bx_14.cell1
  have bx_w14 := bx_14.cell2
  have b1_u14 := b1_14.cell0
  have b1_v14 := b1_14.cell1
  have b1_w14 := b1_14.cell2
  have b2_u14 := b2_14.cell0
  have b2_v14 := b2_14.cell1
  have b2_w14 := b2_14.cell2
  have b3_u14 := b3_14.cell0
  have b3_v14 := b3_14.cell1
  have b3_w14 := b3_14.cell2
  have b4_u14 := b4_14.cell0
  have b4_v14 := b4_14.cell1
  have b4_w14 := b4_14.cell2
  have b5_u14 := b5_14.cell0
  have b5_v14 := b5_14.cell1
  have b5_w14 := b5_14.cell2
  have l1_ := Nat.le_trans (y1_14.ln lu) k7
  have l2_ := Nat.le_trans (y2_14.ln lv) k7
  have l3_ := Nat.le_trans (y3_14.ln lu) k7
  have l4_ := Nat.le_trans (y4_14.ln lv) k7
  have l5_ := Nat.le_trans (y5_14.ln lw) k7
  go_wp2_with fail
  have y1_15 := y1_14.drew
  have y2_15 := y2_14.drew
  have y3_15 := y3_14.drew
  have y4_15 := y4_14.drew
  have y5_15 := y5_14.drew
  have b1_15 := b1_14.drew
  have b2_15 := b2_14.drew
  have b3_15 := b3_14.drew
  have b4_15 := b4_14.drew
  have b5_15 := b5_14.drew
  have F15 := F14.drew
  go_region_held3 (fun w' => w'.cell? ⟨w4.heap.size, 0, none⟩ = some (.bool s4) ∧ w'.cell? ⟨w4.heap.size, 1, none⟩ = some (.slice A4 n4 c4) ∧ w'.cell? ⟨w4.heap.size, 2, none⟩ = some (.int .i64 x4) ∧ w'.cell? ⟨w6.heap.size, 0, none⟩ = some (.bool s6) ∧ w'.cell? ⟨w6.heap.size, 1, none⟩ = some (.slice A6 n6 c6) ∧ w'.cell? ⟨w6.heap.size, 2, none⟩ = some (.int .i64 x6) ∧ w'.cell? ⟨w8.heap.size, 0, none⟩ = some (.bool s8) ∧ w'.cell? ⟨w8.heap.size, 1, none⟩ = some (.slice A8 n8 c8) ∧ w'.cell? ⟨w8.heap.size, 2, none⟩ = some (.int .i64 x8) ∧ w'.cell? ⟨w10.heap.size, 0, none⟩ = some (.bool s10) ∧ w'.cell? ⟨w10.heap.size, 1, none⟩ = some (.slice A10 n10 c10) ∧ w'.cell? ⟨w10.heap.size, 2, none⟩ = some (.int .i64 x10) ∧ w'.cell? ⟨w13.heap.size, 0, none⟩ = some (.bool s13) ∧ w'.cell? ⟨w13.heap.size, 1, none⟩ = some (.slice A13 n13 c13) ∧ w'.cell? ⟨w13.heap.size, 2, none⟩ = some (.int .i64 x13))
    (first
      | with_reducible exact ⟨b1_19.cell0, b1_19.cell1, b1_19.cell2, b2_19.cell0, b2_19.cell1, b2_19.cell2, b3_19.cell0, b3_19.cell1, b3_19.cell2, b4_19.cell0, b4_19.cell1, b4_19.cell2, b5_19.cell0, b5_19.cell1, b5_19.cell2⟩
      | with_reducible exact ⟨b1_18.cell0, b1_18.cell1, b1_18.cell2, b2_18.cell0, b2_18.cell1, b2_18.cell2, b3_18.cell0, b3_18.cell1, b3_18.cell2, b4_18.cell0, b4_18.cell1, b4_18.cell2, b5_18.cell0, b5_18.cell1, b5_18.cell2⟩
      | with_reducible exact ⟨b1_17.cell0, b1_17.cell1, b1_17.cell2, b2_17.cell0, b2_17.cell1, b2_17.cell2, b3_17.cell0, b3_17.cell1, b3_17.cell2, b4_17.cell0, b4_17.cell1, b4_17.cell2, b5_17.cell0, b5_17.cell1, b5_17.cell2⟩
      | with_reducible exact ⟨b1_16.cell0, b1_16.cell1, b1_16.cell2, b2_16.cell0, b2_16.cell1, b2_16.cell2, b3_16.cell0, b3_16.cell1, b3_16.cell2, b4_16.cell0, b4_16.cell1, b4_16.cell2, b5_16.cell0, b5_16.cell1, b5_16.cell2⟩
      | with_reducible exact ⟨b1_15.cell0, b1_15.cell1, b1_15.cell2, b2_15.cell0, b2_15.cell1, b2_15.cell2, b3_15.cell0, b3_15.cell1, b3_15.cell2, b4_15.cell0, b4_15.cell1, b4_15.cell2, b5_15.cell0, b5_15.cell1, b5_15.cell2⟩
      | fail)
    (first
      | (go_at_call 14; (with_reducible refine (rysame_q _ _ _ _ _ _ _ _ _ _ u _ y1_15 y3_15 l1_ l3_).mono ?_); rintro e w16 ⟨rfl, b16⟩; have y1_16 := y1_15.below b16; have y2_16 := y2_15.below b16; have y3_16 := y3_15.below b16; have y4_16 := y4_15.below b16; have y5_16 := y5_15.below b16; have b1_16 := b1_15.below b16 b1_15.lt; have b2_16 := b2_15.below b16 b2_15.lt; have b3_16 := b3_15.below b16 b3_15.lt; have b4_16 := b4_15.below b16 b4_15.lt; have b5_16 := b5_15.below b16 b5_15.lt; have F16 := below_then F15 (Nat.le_refl _) b16)
      | (go_at_call 14; (with_reducible refine (rysame_q _ _ _ _ _ _ _ _ _ _ v _ y2_16 y4_16 l2_ l4_).mono ?_); rintro e w17 ⟨rfl, b17⟩; have y1_17 := y1_16.below b17; have y2_17 := y2_16.below b17; have y3_17 := y3_16.below b17; have y4_17 := y4_16.below b17; have y5_17 := y5_16.below b17; have b1_17 := b1_16.below b17 b1_16.lt; have b2_17 := b2_16.below b17 b2_16.lt; have b3_17 := b3_16.below b17 b3_16.lt; have b4_17 := b4_16.below b17 b4_16.lt; have b5_17 := b5_16.below b17 b5_16.lt; have F17 := below_then F16 (Nat.le_refl _) b17)
      | (go_at_call 22; (with_reducible refine (ryneg _ _ _ _ _ v _ y2_17).mono ?_); rintro e w18 ⟨s18, A18, n18, c18, x18, rfl, y6, b18⟩; have y1_18 := y1_17.below b18; have y2_18 := y2_17.below b18; have y3_18 := y3_17.below b18; have y4_18 := y4_17.below b18; have y5_18 := y5_17.below b18; have b1_18 := b1_17.below b18 b1_17.lt; have b2_18 := b2_17.below b18 b2_17.lt; have b3_18 := b3_17.below b18 b3_17.lt; have b4_18 := b4_17.below b18 b4_17.lt; have b5_18 := b5_17.below b18 b5_17.lt; have F18 := below_then F17 (Nat.le_refl _) b18)
      | (go_at_call 14; (with_reducible refine (rysame_q _ _ _ _ _ _ _ _ _ _ (-v) _ y5_18 y6 l5_ (Nat.le_trans (y6.ln lw) k7)).mono ?_); rintro e w19 ⟨rfl, b19⟩; have y1_19 := y1_18.below b19; have y2_19 := y2_18.below b19; have y3_19 := y3_18.below b19; have y4_19 := y4_18.below b19; have y5_19 := y5_18.below b19; have y6_19 := y6.below b19; have b1_19 := b1_18.below b19 b1_18.lt; have b2_19 := b2_18.below b19 b2_18.lt; have b3_19 := b3_18.below b19 b3_18.lt; have b4_19 := b4_18.below b19 b4_18.lt; have b5_19 := b5_18.below b19 b5_18.lt; have F19 := below_then F18 (Nat.le_refl _) b19)
      | fail)
  have b1_u19 := b1_19.cell0
  have b1_v19 := b1_19.cell1
  have b1_w19 := b1_19.cell2
  have b2_u19 := b2_19.cell0
  have b2_v19 := b2_19.cell1
  have b2_w19 := b2_19.cell2
  have b3_u19 := b3_19.cell0
  have b3_v19 := b3_19.cell1
  have b3_w19 := b3_19.cell2
  have b4_u19 := b4_19.cell0
  have b4_v19 := b4_19.cell1
  have b4_w19 := b4_19.cell2
  have b5_u19 := b5_19.cell0
  have b5_v19 := b5_19.cell1
  have b5_w19 := b5_19.cell2
  go_wp2
  go_ret
  exact ⟨rfl, F19⟩
theorem law_round (s : Bool) (A : Option Addr) (n c : Nat) (B : Option Addr) (m d : Nat) (xs ys : List Nat) (P : Int) (w : World) (hx : Rd w A n c xs) (hy : Rd w B m d ys) (T : Tb w) : Calls Tryd.prog 5 #[.agg #[.bool s, .slice A n c, .slice B m d], .int .i64 P] w (fun e w' => e = .returned (.bool true) ∧ Below w.heap.size w w') := by
  have h : Iq w s A n c B m d (rv s xs ys) := ⟨xs, ys, hx, hy, rfl⟩
  by_cases hh : n ≤ 3 ∧ m ≤ 3
  · obtain ⟨hn, hm⟩ := hh
    by_cases h1 : P < 1
    · exact dr_lo s A n c B m d P _ w h hn hm h1 T
    · by_cases h2 : P ≤ 200
      · exact dr_yes s A n c B m d P _ w h hn hm (by omega) h2 T
      · by_cases h3 : P ≤ 4096
        · exact dr_mid s A n c B m d P _ w h hn hm (by omega) h3 T
        · exact dr_hi s A n c B m d P _ w h hn hm (by omega) T
  · exact dr_no s A n c B m d P _ w h hh T
end Go.Proofs.YthiapkalmmgliaaDoor
