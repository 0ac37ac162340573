/-
  awake of the statements of dyadic.
-/
import Derived.Test.YthiapkalmmgliaaDoorL6
namespace Go.Proofs.YthiapkalmmgliaaDoor
open Go.RowKit
set_option linter.unusedVariables false
set_option linter.unusedSimpArgs false

theorem ydown_at (s : Bool) (A : Option Addr) (n c : Nat) (B : Option Addr) (m d : Nat) (k : Nat) (P : Int) (q v : Rat) (w : World) (hv : tq q k false = v) (hP : P = (k : Int)) (h : Iq w s A n c B m d q) (hn : n ≤ 3) (hm : m ≤ 3) (hk : 1 ≤ k ∧ k ≤ 200) (T : Tb w) :
    Calls Tryd.prog 24 #[.agg #[.bool s, .slice A n c, .slice B m d], .int .i64 P] w (GDE w v 0) := by
  subst hv
  exact ydown_q s A n c B m d k P q w hP h hn hm hk T
theorem yup_at (s : Bool) (A : Option Addr) (n c : Nat) (B : Option Addr) (m d : Nat) (k : Nat) (P : Int) (q v : Rat) (w : World) (hv : tq q k true = v) (hP : P = (k : Int)) (h : Iq w s A n c B m d q) (hn : n ≤ 3) (hm : m ≤ 3) (hk : 1 ≤ k ∧ k ≤ 200) (T : Tb w) :
    Calls Tryd.prog 25 #[.agg #[.bool s, .slice A n c, .slice B m d], .int .i64 P] w (GDE w v 0) := by
  subst hv
  exact yup_q s A n c B m d k P q w hP h hn hm hk T
theorem cy_1 {w : World} {s : Bool} {A : Option Addr} {n c : Nat} {e : Int} {q : Rat} (h : Cy w s A n c e q) (hq : dm q < 4294967296) : n ≤ 1 := h.ln (by simpa [pw] using hq)
theorem qs_lit5 {q : Rat} (h : decide (q.num.natAbs < 4294967296 ∧ q.den < 4294967296) = true) : Qs 1 q := by
  have := of_decide_eq_true h
  exact ⟨by simpa [pw] using this.1, by simpa [pw] using this.2⟩
set_option maxHeartbeats 2000000 in
theorem awake5 (w : World) (T : Tb w) : Calls Tryd.prog 10 #[] w (Asks w (.bool true)) := by
  have q1 : Qs 1 (1/3 : Rat) := qs_lit5 (by decide +kernel)
  have q2 : Qs 1 (5 : Rat) := qs_lit5 (by decide +kernel)
  have q3 : Qs 1 (3/8 : Rat) := qs_lit5 (by decide +kernel)
  have H1 := hide (show ((1 : Int) : Rat) / ((3 : Int) : Rat) = 1/3 by decide +kernel)
  have H2 := hide (show ((5 : Int) : Rat) / ((1 : Int) : Rat) = 5 by decide +kernel)
  have H3 := hide (show ((3 : Int) : Rat) / ((8 : Int) : Rat) = 3/8 by decide +kernel)
  have HL := hide lits
  have HD := hide (show dm (1/4 : Rat) < 4294967296 ∧ dm (6 : Rat) < 4294967296 ∧ dm (3/8 : Rat) < 4294967296 ∧ Isd (3/8 : Rat) by decide +kernel)
  go_enter Tryd.func10, Tryd.ntmps10
  go_wp2_with fail
  refine (lfrac5 1 3 (1/3) _ H1.out (by decide) (by decide) (by decide)).mono ?_
  rintro e w1 ⟨s1, A1, n1, c1, B1, m1, d1, rfl, x, b1⟩
  have T_1 := T.below b1
  have F1 := b1
  have sz1 := cq_tiny5 x q1
  go_wp2_with fail
  refine (ydown_at _ _ _ _ _ _ _ 2 2 (1/3) (1/4) _ HL.out.2.2.2.1 rfl x.iq (Nat.le_trans sz1.1 (by decide)) (Nat.le_trans sz1.2 (by decide)) (by decide) T_1).mono ?_
  rintro e w2 ⟨s2, A2, n2, c2, x2, rfl, a, b2⟩
  have T_2 := T_1.below b2
  have F2 := below_then F1 (Nat.le_refl _) b2
  clear sz1 x
  have T_3 := T_2.alloc (EY s2 A2 n2 c2 x2)
  have a_3 := a.alloc (EY s2 A2 n2 c2 x2)
  have ba_3 : Sy ((w2).alloc (EY s2 A2 n2 c2 x2)) (w2.heap.size) (.bool s2) (.slice A2 n2 c2) (.int .i64 x2) := by have h_ := Sy.new (w2) (.bool s2) (.slice A2 n2 c2) (.int .i64 x2); exact h_
  have F3 := F2.alloc F2.size (EY s2 A2 n2 c2 x2)
  have ba_u3 := ba_3.cell0
  have ba_v3 := ba_3.cell1
  have ba_w3 := ba_3.cell2
  go_wp2_with fail
  refine (lfrac5 5 1 (5) _ H2.out (by decide) (by decide) (by decide)).mono ?_
  rintro e w4 ⟨s4, A4, n4, c4, B4, m4, d4, rfl, x, b4⟩
  have T_4 := T_3.below b4
  have a_4 := a_3.below b4
  have ba_4 := ba_3.below b4 ba_3.lt
  have F4 := below_then F3 (Nat.le_refl _) b4
  have ba_u4 := ba_4.cell0
  have ba_v4 := ba_4.cell1
  have ba_w4 := ba_4.cell2
  have sz4 := cq_tiny5 x q2
  go_wp2_with fail
  refine (yup_at _ _ _ _ _ _ _ 2 2 5 6 _ HL.out.2.2.2.2.1 rfl x.iq (Nat.le_trans sz4.1 (by decide)) (Nat.le_trans sz4.2 (by decide)) (by decide) T_4).mono ?_
  rintro e w5 ⟨s5, A5, n5, c5, x5, rfl, b, b5⟩
  have T_5 := T_4.below b5
  have a_5 := a_4.below b5
  have ba_5 := ba_4.below b5 ba_4.lt
  have F5 := below_then F4 (Nat.le_refl _) b5
  have ba_u5 := ba_5.cell0
  have ba_v5 := ba_5.cell1
  have ba_w5 := ba_5.cell2
  clear sz4 x
  have lt_bb_ba := ba_5.lt
  have T_6 := T_5.alloc (EY s5 A5 n5 c5 x5)
  have a_6 := a_5.alloc (EY s5 A5 n5 c5 x5)
  have b_6 := b.alloc (EY s5 A5 n5 c5 x5)
  have ba_6 := ba_5.alloc (EY s5 A5 n5 c5 x5)
  have bb_6 : Sy ((w5).alloc (EY s5 A5 n5 c5 x5)) (w5.heap.size) (.bool s5) (.slice A5 n5 c5) (.int .i64 x5) := by have h_ := Sy.new (w5) (.bool s5) (.slice A5 n5 c5) (.int .i64 x5); exact h_
  have F6 := F5.alloc F5.size (EY s5 A5 n5 c5 x5)
  have ba_u6 := ba_6.cell0
  have ba_v6 := ba_6.cell1
  have ba_w6 := ba_6.cell2
  have bb_u6 := bb_6.cell0
  have bb_v6 := bb_6.cell1
  have bb_w6 := bb_6.cell2
  go_wp2_with fail
  refine (lfrac5 3 8 (3/8) _ H3.out (by decide) (by decide) (by decide)).mono ?_
  rintro e w7 ⟨s7, A7, n7, c7, B7, m7, d7, rfl, x, b7⟩
  have T_7 := T_6.below b7
  have a_7 := a_6.below b7
  have b_7 := b_6.below b7
  have ba_7 := ba_6.below b7 ba_6.lt
  have bb_7 := bb_6.below b7 bb_6.lt
  have F7 := below_then F6 (Nat.le_refl _) b7
  have ba_u7 := ba_7.cell0
  have ba_v7 := ba_7.cell1
  have ba_w7 := ba_7.cell2
  have bb_u7 := bb_7.cell0
  have bb_v7 := bb_7.cell1
  have bb_w7 := bb_7.cell2
  have sz7 := cq_tiny5 x q3
  go_wp2_with fail
  refine (yexact_q _ _ _ _ _ _ _ (3/8) _ x.iq (Nat.le_trans sz7.1 (by decide)) (Nat.le_trans sz7.2 (by decide)) HD.out.2.2.2 T_7).mono ?_
  rintro e w8 ⟨s8, A8, n8, c8, x8, rfl, c, b8⟩
  have T_8 := T_7.below b8
  have a_8 := a_7.below b8
  have b_8 := b_7.below b8
  have ba_8 := ba_7.below b8 ba_7.lt
  have bb_8 := bb_7.below b8 bb_7.lt
  have F8 := below_then F7 (Nat.le_refl _) b8
  have ba_u8 := ba_8.cell0
  have ba_v8 := ba_8.cell1
  have ba_w8 := ba_8.cell2
  have bb_u8 := bb_8.cell0
  have bb_v8 := bb_8.cell1
  have bb_w8 := bb_8.cell2
  clear sz7 x
  have lt_bc_ba := ba_8.lt
  have lt_bc_bb := bb_8.lt
  have T_9 := T_8.alloc (EY s8 A8 n8 c8 x8)
  have a_9 := a_8.alloc (EY s8 A8 n8 c8 x8)
  have b_9 := b_8.alloc (EY s8 A8 n8 c8 x8)
  have c_9 := c.alloc (EY s8 A8 n8 c8 x8)
  have ba_9 := ba_8.alloc (EY s8 A8 n8 c8 x8)
  have bb_9 := bb_8.alloc (EY s8 A8 n8 c8 x8)
  have bc_9 : Sy ((w8).alloc (EY s8 A8 n8 c8 x8)) (w8.heap.size) (.bool s8) (.slice A8 n8 c8) (.int .i64 x8) := by have h_ := Sy.new (w8) (.bool s8) (.slice A8 n8 c8) (.int .i64 x8); exact h_
  have F9 := F8.alloc F8.size (EY s8 A8 n8 c8 x8)
  have ba_u9 := ba_9.cell0
  have ba_v9 := ba_9.cell1
  have ba_w9 := ba_9.cell2
  have bb_u9 := bb_9.cell0
  have bb_v9 := bb_9.cell1
  have bb_w9 := bb_9.cell2
  have bc_u9 := bc_9.cell0
  have bc_v9 := bc_9.cell1
  have bc_w9 := bc_9.cell2
  go_wp2_with fail
  refine (lfrac5 1 3 (1/3) _ H1.out (by decide) (by decide) (by decide)).mono ?_
  rintro e w10 ⟨s10, A10, n10, c10, B10, m10, d10, rfl, x, b10⟩
  have T_10 := T_9.below b10
  have a_10 := a_9.below b10
  have b_10 := b_9.below b10
  have c_10 := c_9.below b10
  have ba_10 := ba_9.below b10 ba_9.lt
  have bb_10 := bb_9.below b10 bb_9.lt
  have bc_10 := bc_9.below b10 bc_9.lt
  have F10 := below_then F9 (Nat.le_refl _) b10
  have ba_u10 := ba_10.cell0
  have ba_v10 := ba_10.cell1
  have ba_w10 := ba_10.cell2
  have bb_u10 := bb_10.cell0
  have bb_v10 := bb_10.cell1
  have bb_w10 := bb_10.cell2
  have bc_u10 := bc_10.cell0
  have bc_v10 := bc_10.cell1
  have bc_w10 := bc_10.cell2
  have sz10 := cq_tiny5 x q1
  go_wp2_with fail
  refine (yexact_n _ _ _ _ _ _ _ (1/3) _ x.iq (Nat.le_trans sz10.1 (by decide)) (Nat.le_trans sz10.2 (by decide)) HL.out.2.2.2.2.2.1 T_10).mono ?_
  rintro e w11 ⟨s11, A11, n11, c11, x11, rfl, d, b11⟩
  have T_11 := T_10.below b11
  have a_11 := a_10.below b11
  have b_11 := b_10.below b11
  have c_11 := c_10.below b11
  have ba_11 := ba_10.below b11 ba_10.lt
  have bb_11 := bb_10.below b11 bb_10.lt
  have bc_11 := bc_10.below b11 bc_10.lt
  have F11 := below_then F10 (Nat.le_refl _) b11
  have ba_u11 := ba_11.cell0
  have ba_v11 := ba_11.cell1
  have ba_w11 := ba_11.cell2
  have bb_u11 := bb_11.cell0
  have bb_v11 := bb_11.cell1
  have bb_w11 := bb_11.cell2
  have bc_u11 := bc_11.cell0
  have bc_v11 := bc_11.cell1
  have bc_w11 := bc_11.cell2
  clear sz10 x
  have lt_bd_ba := ba_11.lt
  have lt_bd_bb := bb_11.lt
  have lt_bd_bc := bc_11.lt
  have T_12 := T_11.alloc (EY s11 A11 n11 c11 x11)
  have a_12 := a_11.alloc (EY s11 A11 n11 c11 x11)
  have b_12 := b_11.alloc (EY s11 A11 n11 c11 x11)
  have c_12 := c_11.alloc (EY s11 A11 n11 c11 x11)
  have d_12 := d.alloc (EY s11 A11 n11 c11 x11)
  have ba_12 := ba_11.alloc (EY s11 A11 n11 c11 x11)
  have bb_12 := bb_11.alloc (EY s11 A11 n11 c11 x11)
  have bc_12 := bc_11.alloc (EY s11 A11 n11 c11 x11)
  have bd_12 : Sy ((w11).alloc (EY s11 A11 n11 c11 x11)) (w11.heap.size) (.bool s11) (.slice A11 n11 c11) (.int .i64 x11) := by have h_ := Sy.new (w11) (.bool s11) (.slice A11 n11 c11) (.int .i64 x11); exact h_
  have F12 := F11.alloc F11.size (EY s11 A11 n11 c11 x11)
  have ba_u12 := ba_12.cell0
  have ba_v12 := ba_12.cell1
  have ba_w12 := ba_12.cell2
  have bb_u12 := bb_12.cell0
  have bb_v12 := bb_12.cell1
  have bb_w12 := bb_12.cell2
  have bc_u12 := bc_12.cell0
  have bc_v12 := bc_12.cell1
  have bc_w12 := bc_12.cell2
  have bd_u12 := bd_12.cell0
  have bd_v12 := bd_12.cell1
  have bd_w12 := bd_12.cell2
  have na := cy_1 a_12 HD.out.1
  have nb := cy_1 b_12 HD.out.2.1
  have nc := cy_1 c_12 HD.out.2.2.1
  have xa : x2 = de (1/4) := a_12.2.2.1
  have xb : x5 = de 6 := b_12.2.2.1
  have xc : x8 = de (3/8) := c_12.2.2.1
  have HX := hide (And.intro xa (And.intro xb xc))
  clear xa xb xc
  go_wp2_with fail
  have a_13 := a_12.alloc (.cells #[.int .u32 1] 47)
  have b_13 := b_12.alloc (.cells #[.int .u32 1] 47)
  have c_13 := c_12.alloc (.cells #[.int .u32 1] 47)
  have ba_13 := ba_12.alloc (.cells #[.int .u32 1] 47)
  have bb_13 := bb_12.alloc (.cells #[.int .u32 1] 47)
  have bc_13 := bc_12.alloc (.cells #[.int .u32 1] 47)
  have F13 := F12.alloc F12.size (.cells #[.int .u32 1] 47)
  have la := rd_one ((w11).alloc (EY s11 A11 n11 c11 x11)) 1 (by omega)
  simp only [World.size_alloc] at la
  have ba_u13 := ba_13.cell0
  have ba_v13 := ba_13.cell1
  have ba_w13 := ba_13.cell2
  have bb_u13 := bb_13.cell0
  have bb_v13 := bb_13.cell1
  have bb_w13 := bb_13.cell2
  have bc_u13 := bc_13.cell0
  have bc_v13 := bc_13.cell1
  have bc_w13 := bc_13.cell2
  refine (rysame_q _ _ _ _ _ _ _ _ _ _ (1/4) _ a_13 (cy_lit 1 (-2) (1/4) la HL.out.1) (Nat.le_trans na (by decide)) (by decide)).mono ?_
  rintro e w14 ⟨rfl, b14⟩
  have a_14 := a_13.below b14
  have b_14 := b_13.below b14
  have c_14 := c_13.below b14
  have la_14 := la.below b14
  have ba_14 := ba_13.below b14 ba_13.lt
  have bb_14 := bb_13.below b14 bb_13.lt
  have bc_14 := bc_13.below b14 bc_13.lt
  have F14 := below_then F13 (Nat.le_refl _) b14
  have ba_u14 := ba_14.cell0
  have ba_v14 := ba_14.cell1
  have ba_w14 := ba_14.cell2
  have bb_u14 := bb_14.cell0
  have bb_v14 := bb_14.cell1
  have bb_w14 := bb_14.cell2
  have bc_u14 := bc_14.cell0
  have bc_v14 := bc_14.cell1
  have bc_w14 := bc_14.cell2
  go_wp2_with fail
  have a_15 := a_14.alloc (.cells #[.int .u32 3] 47)
  have b_15 := b_14.alloc (.cells #[.int .u32 3] 47)
  have c_15 := c_14.alloc (.cells #[.int .u32 3] 47)
  have ba_15 := ba_14.alloc (.cells #[.int .u32 3] 47)
  have bb_15 := bb_14.alloc (.cells #[.int .u32 3] 47)
  have bc_15 := bc_14.alloc (.cells #[.int .u32 3] 47)
  have F15 := F14.alloc F14.size (.cells #[.int .u32 3] 47)
  have lb := rd_one (w14) 3 (by omega)
  have ba_u15 := ba_15.cell0
  have ba_v15 := ba_15.cell1
  have ba_w15 := ba_15.cell2
  have bb_u15 := bb_15.cell0
  have bb_v15 := bb_15.cell1
  have bb_w15 := bb_15.cell2
  have bc_u15 := bc_15.cell0
  have bc_v15 := bc_15.cell1
  have bc_w15 := bc_15.cell2
  refine (rysame_q _ _ _ _ _ _ _ _ _ _ 6 _ b_15 (cy_lit 3 1 6 lb HL.out.2.1) (Nat.le_trans nb (by decide)) (by decide)).mono ?_
  rintro e w16 ⟨rfl, b16⟩
  have a_16 := a_15.below b16
  have b_16 := b_15.below b16
  have c_16 := c_15.below b16
  have lb_16 := lb.below b16
  have ba_16 := ba_15.below b16 ba_15.lt
  have bb_16 := bb_15.below b16 bb_15.lt
  have bc_16 := bc_15.below b16 bc_15.lt
  have F16 := below_then F15 (Nat.le_refl _) b16
  have ba_u16 := ba_16.cell0
  have ba_v16 := ba_16.cell1
  have ba_w16 := ba_16.cell2
  have bb_u16 := bb_16.cell0
  have bb_v16 := bb_16.cell1
  have bb_w16 := bb_16.cell2
  have bc_u16 := bc_16.cell0
  have bc_v16 := bc_16.cell1
  have bc_w16 := bc_16.cell2
  go_wp2_with fail
  have a_17 := a_16.alloc (.cells #[.int .u32 3] 47)
  have b_17 := b_16.alloc (.cells #[.int .u32 3] 47)
  have c_17 := c_16.alloc (.cells #[.int .u32 3] 47)
  have ba_17 := ba_16.alloc (.cells #[.int .u32 3] 47)
  have bb_17 := bb_16.alloc (.cells #[.int .u32 3] 47)
  have bc_17 := bc_16.alloc (.cells #[.int .u32 3] 47)
  have F17 := F16.alloc F16.size (.cells #[.int .u32 3] 47)
  have lc := rd_one (w16) 3 (by omega)
  have ba_u17 := ba_17.cell0
  have ba_v17 := ba_17.cell1
  have ba_w17 := ba_17.cell2
  have bb_u17 := bb_17.cell0
  have bb_v17 := bb_17.cell1
  have bb_w17 := bb_17.cell2
  have bc_u17 := bc_17.cell0
  have bc_v17 := bc_17.cell1
  have bc_w17 := bc_17.cell2
  refine (rysame_q _ _ _ _ _ _ _ _ _ _ (3/8) _ c_17 (cy_lit 3 (-3) (3/8) lc HL.out.2.2.1) (Nat.le_trans nc (by decide)) (by decide)).mono ?_
  rintro e w18 ⟨rfl, b18⟩
  have a_18 := a_17.below b18
  have b_18 := b_17.below b18
  have c_18 := c_17.below b18
  have lc_18 := lc.below b18
  have ba_18 := ba_17.below b18 ba_17.lt
  have bb_18 := bb_17.below b18 bb_17.lt
  have bc_18 := bc_17.below b18 bc_17.lt
  have F18 := below_then F17 (Nat.le_refl _) b18
  have ba_u18 := ba_18.cell0
  have ba_v18 := ba_18.cell1
  have ba_w18 := ba_18.cell2
  have bb_u18 := bb_18.cell0
  have bb_v18 := bb_18.cell1
  have bb_w18 := bb_18.cell2
  have bc_u18 := bc_18.cell0
  have bc_v18 := bc_18.cell1
  have bc_w18 := bc_18.cell2
  go_wp2_with fail
  refine (yvalid_at _ _ _ _ _ _ true _ (cy_vb c_18 (by rw [HX.out.2.2]; decide +kernel)) c_18.1 (Nat.le_trans nc (by decide))).mono ?_
  rintro e w19 ⟨rfl, b19⟩
  have a_19 := a_18.below b19
  have b_19 := b_18.below b19
  have c_19 := c_18.below b19
  have ba_19 := ba_18.below b19 ba_18.lt
  have bb_19 := bb_18.below b19 bb_18.lt
  have bc_19 := bc_18.below b19 bc_18.lt
  have F19 := below_then F18 (Nat.le_refl _) b19
  have ba_u19 := ba_19.cell0
  have ba_v19 := ba_19.cell1
  have ba_w19 := ba_19.cell2
  have bb_u19 := bb_19.cell0
  have bb_v19 := bb_19.cell1
  have bb_w19 := bb_19.cell2
  have bc_u19 := bc_19.cell0
  have bc_v19 := bc_19.cell1
  have bc_w19 := bc_19.cell2
  go_wp2_with fail
  have a_20 := a_19.alloc (.cells #[.int .u32 2] 47)
  have b_20 := b_19.alloc (.cells #[.int .u32 2] 47)
  have ba_20 := ba_19.alloc (.cells #[.int .u32 2] 47)
  have bb_20 := bb_19.alloc (.cells #[.int .u32 2] 47)
  have F20 := F19.alloc F19.size (.cells #[.int .u32 2] 47)
  have ld := rd_one (w19) 2 (by omega)
  have ba_u20 := ba_20.cell0
  have ba_v20 := ba_20.cell1
  have ba_w20 := ba_20.cell2
  have bb_u20 := bb_20.cell0
  have bb_v20 := bb_20.cell1
  have bb_w20 := bb_20.cell2
  refine (yvalid_at _ _ _ _ _ [2] false _ HL.out.2.2.2.2.2.2.2 ld (by decide)).mono ?_
  rintro e w21 ⟨rfl, b21⟩
  have a_21 := a_20.below b21
  have b_21 := b_20.below b21
  have ld_21 := ld.below b21
  have ba_21 := ba_20.below b21 ba_20.lt
  have bb_21 := bb_20.below b21 bb_20.lt
  have F21 := below_then F20 (Nat.le_refl _) b21
  have ba_u21 := ba_21.cell0
  have ba_v21 := ba_21.cell1
  have ba_w21 := ba_21.cell2
  have bb_u21 := bb_21.cell0
  have bb_v21 := bb_21.cell1
  have bb_w21 := bb_21.cell2
  go_wp2_with fail
  refine (ycmp_q _ _ _ _ _ _ _ _ _ _ (1/4) 6 (-1) _ HL.out.2.2.2.2.2.2.1 a_21 b_21 (Nat.le_trans na (by decide)) (Nat.le_trans nb (by decide)) (by rw [HX.out.1]; decide +kernel) (by rw [HX.out.2.1]; decide +kernel)).mono ?_
  rintro e w22 ⟨rfl, b22⟩
  have a_22 := a_21.below b22
  have b_22 := b_21.below b22
  have ba_22 := ba_21.below b22 ba_21.lt
  have bb_22 := bb_21.below b22 bb_21.lt
  have F22 := below_then F21 (Nat.le_refl _) b22
  have ba_u22 := ba_22.cell0
  have ba_v22 := ba_22.cell1
  have ba_w22 := ba_22.cell2
  have bb_u22 := bb_22.cell0
  have bb_v22 := bb_22.cell1
  have bb_w22 := bb_22.cell2
  go_wp2
  go_ret
  exact ⟨rfl, F22⟩
end Go.Proofs.YthiapkalmmgliaaDoor
