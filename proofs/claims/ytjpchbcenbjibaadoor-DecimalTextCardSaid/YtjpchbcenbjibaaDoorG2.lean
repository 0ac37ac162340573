/-
  The walks of DecimalFixed and DecimalRoundTrip.
-/
import Derived.Test.YtjpchbcenbjibaaDoorG1
namespace Go.Proofs.YtjpchbcenbjibaaDoor
open Go.RowKit
set_option linter.unusedVariables false
set_option linter.unusedSimpArgs false

theorem lr_no (s : Bool) (A : Option Addr) (n c : Nat) (B : Option Addr) (m d : Nat) (l : List UInt8) (xs ys : List Nat) (w : World) (hx : Rd w A n c xs) (hy : Rd w B m d ys) (h : ¬ (n ≤ 8 ∧ m ≤ 8 ∧ isC s xs ys = true)) : Calls Tryd.prog 6 #[.agg #[.bool s, .slice A n c, .slice B m d], .string (bs l)] w (fun e w' => e = .returned (.bool true) ∧ Below w.heap.size w w') := by
  have HN := hide h
  clear h
  have hx_1 := hx.alloc (EQ s A n c B m d)
  have hy_1 := hy.alloc (EQ s A n c B m d)
  have bx_1 : Sq ((w).alloc (EQ s A n c B m d)) (w.heap.size) (.bool s) (.slice A n c) (.slice B m d) := by have h_ := Sq.new (w) (.bool s) (.slice A n c) (.slice B m d); exact h_
  have F1 := (Below.refl w.heap.size w).alloc (Nat.le_refl _) (EQ s A n c B m d)
  go_enter Tryd.func6, Tryd.ntmps6
  go_wp2_with fail
  refine (awake4 _).mono ?_
  rintro e w2 ⟨rfl, b2⟩
  have hx_2 := hx_1.below b2
  have hy_2 := hy_1.below b2
  have bx_2 := bx_1.below b2 bx_1.lt
  have F2 := below_then F1 (Nat.le_refl _) b2
  have bx_u2 := bx_2.cell0
  have bx_v2 := bx_2.cell1
  have bx_w2 := bx_2.cell2
  go_wp2_with fail
  refine (fair_not _ _ _ _ _ _ _ xs ys _ hx_2 hy_2 HN.out).mono ?_
  rintro e w3 ⟨rfl, b3⟩
  have hx_3 := hx_2.below b3
  have hy_3 := hy_2.below b3
  have bx_3 := bx_2.below b3 bx_2.lt
  have F3 := below_then F2 (Nat.le_refl _) b3
  have bx_u3 := bx_3.cell0
  have bx_v3 := bx_3.cell1
  have bx_w3 := bx_3.cell2
  go_wp2_with fail
  refine (awake4 _).mono ?_
  rintro e w4 ⟨rfl, b4⟩
  have hx_4 := hx_3.below b4
  have hy_4 := hy_3.below b4
  have bx_4 := bx_3.below b4 bx_3.lt
  have F4 := below_then F3 (Nat.le_refl _) b4
  have bx_u4 := bx_4.cell0
  have bx_v4 := bx_4.cell1
  have bx_w4 := bx_4.cell2
  go_wp2
  go_ret
  exact ⟨rfl, F4⟩
theorem lr_long (s : Bool) (A : Option Addr) (n c : Nat) (B : Option Addr) (m d : Nat) (q : Rat) (l : List UInt8) (w : World) (h : Cq w s A n c B m d q) (hn : n ≤ 8) (hm : m ≤ 8) (hl : ¬ l.length ≤ 200) : Calls Tryd.prog 6 #[.agg #[.bool s, .slice A n c, .slice B m d], .string (bs l)] w (fun e w' => e = .returned (.bool true) ∧ Below w.heap.size w w') := by
  have hz := bs_size l
  have d1 : decide (200 < (l.length : Int)) = true := by simp; omega
  have h_1 := h.alloc (EQ s A n c B m d)
  have bx_1 : Sq ((w).alloc (EQ s A n c B m d)) (w.heap.size) (.bool s) (.slice A n c) (.slice B m d) := by have h_ := Sq.new (w) (.bool s) (.slice A n c) (.slice B m d); exact h_
  have F1 := (Below.refl w.heap.size w).alloc (Nat.le_refl _) (EQ s A n c B m d)
  go_enter Tryd.func6, Tryd.ntmps6
  go_wp2_with fail
  refine (awake4 _).mono ?_
  rintro e w2 ⟨rfl, b2⟩
  have h_2 := h_1.below b2
  have bx_2 := bx_1.below b2 bx_1.lt
  have F2 := below_then F1 (Nat.le_refl _) b2
  have bx_u2 := bx_2.cell0
  have bx_v2 := bx_2.cell1
  have bx_w2 := bx_2.cell2
  go_wp2_with fail
  refine (fair_yes _ _ _ _ _ _ _ q _ h_2 hn hm).mono ?_
  rintro e w3 ⟨rfl, b3⟩
  have h_3 := h_2.below b3
  have bx_3 := bx_2.below b3 bx_2.lt
  have F3 := below_then F2 (Nat.le_refl _) b3
  have bx_u3 := bx_3.cell0
  have bx_v3 := bx_3.cell1
  have bx_w3 := bx_3.cell2
  go_wp2_with fail
  refine (awake4 _).mono ?_
  rintro e w4 ⟨rfl, b4⟩
  have h_4 := h_3.below b4
  have bx_4 := bx_3.below b4 bx_3.lt
  have F4 := below_then F3 (Nat.le_refl _) b4
  have bx_u4 := bx_4.cell0
  have bx_v4 := bx_4.cell1
  have bx_w4 := bx_4.cell2
  go_wp2
  go_ret
  exact ⟨rfl, F4⟩
theorem txt_len (q : Rat) : (txt q).length ≤ 2 + (dtx q.num.natAbs).length + (dtx q.den).length := by
  unfold txt
  rw [List.length_append, List.length_append]
  have : (if q.num < 0 then [45] else ([] : List UInt8)).length ≤ 1 := by split <;> decide
  have h2 : (if q.den = 1 then ([] : List UInt8) else 47 :: dtx q.den).length ≤ 1 + (dtx q.den).length := by
    split
    · exact Nat.zero_le _
    · rw [List.length_cons]; omega
  omega
/-- The text of a number of few limbs is parsed as the number. -/
theorem text_back (q : Rat) (K : Nat) (h : Qs K q) (hK : K ≤ 200) (hK1 : 1 ≤ K) : pparse (txt q) = (q, 0, 0) ∧ (txt q).length ≤ 100000 := by
  have h1 := dtx_pw h.1 hK1
  have h2 := dtx_pw h.2 hK1
  have h3 := txt_len q
  exact ⟨pparse_txt q (by omega), by omega⟩
theorem parse_back (l : List UInt8) (hl : l.length ≤ 200) : pparse (txt (pparse l).1) = ((pparse l).1, 0, 0) ∧ (txt (pparse l).1).length ≤ 100000 := by
  have h := pparse_size l
  have m1 : 10 ^ l.length ≤ 10 ^ 200 := Nat.pow_le_pow_right (by decide) hl
  have m2 : 10 ^ 200 < 10 ^ 201 := Nat.pow_lt_pow_right (by decide) (by decide)
  have h1 := dtx_len (n := (pparse l).1.num.natAbs) (k := 200) (by omega) (by decide)
  have h2 := dtx_len (n := (pparse l).1.den) (k := 201) (by omega) (by decide)
  have h3 := txt_len (pparse l).1
  exact ⟨pparse_txt _ (by omega), by omega⟩
theorem lr_ok (s : Bool) (A : Option Addr) (n c : Nat) (B : Option Addr) (m d : Nat) (q : Rat) (l : List UInt8) (w : World) (h : Cq w s A n c B m d q) (hn : n ≤ 8) (hm : m ≤ 8) (hl : l.length ≤ 200) (he : (pparse l).2.2 = 0) : Calls Tryd.prog 6 #[.agg #[.bool s, .slice A n c, .slice B m d], .string (bs l)] w (fun e w' => e = .returned (.bool true) ∧ Below w.heap.size w w') := by
  have hs : Qs 8 q := h.iq.size hn hm (by omega)
  have k1 : 8 ≤ 1000 := by omega
  have k2 : 1 ≤ 8 := by omega
  have k3 : 8 ≤ 16384 := by omega
  have hz := bs_size l
  have d1 : decide (200 < (l.length : Int)) = false := by simp; omega
  have hb := text_back q 8 hs (by omega) k2
  obtain ⟨L, hL⟩ : ∃ L, txt q = L := ⟨_, rfl⟩
  rw [hL] at hb
  have HL := hide hL
  have HB := hide hb.1
  have lb : L.length ≤ 100000 := hb.2
  have hq1 : q.num.natAbs < pw 8 := hs.1
  have hq2 : q.den < pw 8 := hs.2
  have hl5 : l.length ≤ 100000 := by omega
  have n1 : n ≤ 16384 := by omega
  have n2 : m ≤ 16384 := by omega
  have hzz := parse_back l hl
  have hzs := parse_qs l 201 (by omega)
  obtain ⟨r, hr⟩ : ∃ r, pparse l = r := ⟨_, rfl⟩
  obtain ⟨z, i, k⟩ := r
  rw [hr] at hzs hzz
  obtain ⟨I, hI⟩ : ∃ I : Int, (i : Int) = I := ⟨_, rfl⟩
  have HR := hide hr
  have HI := hide hI
  rw [hr] at he
  have hk0 : k = 0 := he
  subst hk0
  have HE := hide (show ((0 : Nat) : Int) = 0 from rfl)
  obtain ⟨M, hM⟩ : ∃ M, txt z = M := ⟨_, rfl⟩
  have hz1 : pparse M = (z, 0, 0) := by rw [← hM]; exact hzz.1
  have lm : M.length ≤ 100000 := by rw [← hM]; exact hzz.2
  have HM := hide hM
  have HZ := hide hz1
  have z1 : z.num.natAbs < pw 201 := hzs.1
  have z2 : z.den < pw 201 := hzs.2
  have k201 : 201 ≤ 16384 := by omega
  clear he hM hz1 hzz hr hI hL hb
  have h_1 := h.alloc (EQ s A n c B m d)
  have bx_1 : Sq ((w).alloc (EQ s A n c B m d)) (w.heap.size) (.bool s) (.slice A n c) (.slice B m d) := by have h_ := Sq.new (w) (.bool s) (.slice A n c) (.slice B m d); exact h_
  have F1 := (Below.refl w.heap.size w).alloc (Nat.le_refl _) (EQ s A n c B m d)
  go_enter Tryd.func6, Tryd.ntmps6
  go_wp2_with fail
  refine (awake4 _).mono ?_
  rintro e w2 ⟨rfl, b2⟩
  have h_2 := h_1.below b2
  have bx_2 := bx_1.below b2 bx_1.lt
  have F2 := below_then F1 (Nat.le_refl _) b2
  have bx_u2 := bx_2.cell0
  have bx_v2 := bx_2.cell1
  have bx_w2 := bx_2.cell2
  go_wp2_with fail
  refine (fair_yes _ _ _ _ _ _ _ q _ h_2 hn hm).mono ?_
  rintro e w3 ⟨rfl, b3⟩
  have h_3 := h_2.below b3
  have bx_3 := bx_2.below b3 bx_2.lt
  have F3 := below_then F2 (Nat.le_refl _) b3
  have bx_u3 := bx_3.cell0
  have bx_v3 := bx_3.cell1
  have bx_w3 := bx_3.cell2
  go_wp2_with fail
  refine (text_at _ _ _ _ _ _ _ q 8 L _ HL.out h_3 hs k1 k2).mono ?_
  rintro e w4 ⟨rfl, b4⟩
  have h_4 := h_3.below b4
  have bx_4 := bx_3.below b4 bx_3.lt
  have F4 := below_then F3 (Nat.le_refl _) b4
  have bx_u4 := bx_4.cell0
  have bx_v4 := bx_4.cell1
  have bx_w4 := bx_4.cell2
  go_wp2_with fail
  refine (parse_at L q 0 0 0 0 _ lb HB.out rfl rfl).mono ?_
  rintro e w5 ⟨s5, A5, n5, c5, B5, m5, d5, rfl, y, b5⟩
  have h_5 := h_4.below b5
  have bx_5 := bx_4.below b5 bx_4.lt
  have F5 := below_then F4 (Nat.le_refl _) b5
  have bx_u5 := bx_5.cell0
  have bx_v5 := bx_5.cell1
  have bx_w5 := bx_5.cell2
  have lt_b1_bx := bx_5.lt
  have h_6 := h_5.alloc (EQ s5 A5 n5 c5 B5 m5 d5)
  have y_6 := y.alloc (EQ s5 A5 n5 c5 B5 m5 d5)
  have bx_6 := bx_5.alloc (EQ s5 A5 n5 c5 B5 m5 d5)
  have b1_6 : Sq ((w5).alloc (EQ s5 A5 n5 c5 B5 m5 d5)) (w5.heap.size) (.bool s5) (.slice A5 n5 c5) (.slice B5 m5 d5) := by have h_ := Sq.new (w5) (.bool s5) (.slice A5 n5 c5) (.slice B5 m5 d5); exact h_
  have F6 := F5.alloc F5.size (EQ s5 A5 n5 c5 B5 m5 d5)
  have bx_u6 := bx_6.cell0
  have bx_v6 := bx_6.cell1
  have bx_w6 := bx_6.cell2
  have b1_u6 := b1_6.cell0
  have b1_v6 := b1_6.cell1
  have b1_w6 := b1_6.cell2
  go_wp2_with fail
  refine (parse_at l z i 0 I 0 _ hl5 HR.out HI.out HE.out).mono ?_
  rintro e w7 ⟨s7, A7, n7, c7, B7, m7, d7, rfl, zz, b7⟩
  have h_7 := h_6.below b7
  have y_7 := y_6.below b7
  have bx_7 := bx_6.below b7 bx_6.lt
  have b1_7 := b1_6.below b7 b1_6.lt
  have F7 := below_then F6 (Nat.le_refl _) b7
  have bx_u7 := bx_7.cell0
  have bx_v7 := bx_7.cell1
  have bx_w7 := bx_7.cell2
  have b1_u7 := b1_7.cell0
  have b1_v7 := b1_7.cell1
  have b1_w7 := b1_7.cell2
  have lt_b2_bx := bx_7.lt
  have lt_b2_b1 := b1_7.lt
  have h_8 := h_7.alloc (EQ s7 A7 n7 c7 B7 m7 d7)
  have y_8 := y_7.alloc (EQ s7 A7 n7 c7 B7 m7 d7)
  have zz_8 := zz.alloc (EQ s7 A7 n7 c7 B7 m7 d7)
  have bx_8 := bx_7.alloc (EQ s7 A7 n7 c7 B7 m7 d7)
  have b1_8 := b1_7.alloc (EQ s7 A7 n7 c7 B7 m7 d7)
  have b2_8 : Sq ((w7).alloc (EQ s7 A7 n7 c7 B7 m7 d7)) (w7.heap.size) (.bool s7) (.slice A7 n7 c7) (.slice B7 m7 d7) := by have h_ := Sq.new (w7) (.bool s7) (.slice A7 n7 c7) (.slice B7 m7 d7); exact h_
  have F8 := F7.alloc F7.size (EQ s7 A7 n7 c7 B7 m7 d7)
  have bx_u8 := bx_8.cell0
  have bx_v8 := bx_8.cell1
  have bx_w8 := bx_8.cell2
  have b1_u8 := b1_8.cell0
  have b1_v8 := b1_8.cell1
  have b1_w8 := b1_8.cell2
  have b2_u8 := b2_8.cell0
  have b2_v8 := b2_8.cell1
  have b2_w8 := b2_8.cell2
  go_wp2_with fail
  refine (same_q _ _ _ _ _ _ _ _ _ _ _ _ _ _ q _ h_8 y_8 n1 n2).mono ?_
  rintro e w9 ⟨rfl, b9⟩
  have h_9 := h_8.below b9
  have y_9 := y_8.below b9
  have zz_9 := zz_8.below b9
  have bx_9 := bx_8.below b9 bx_8.lt
  have b1_9 := b1_8.below b9 b1_8.lt
  have b2_9 := b2_8.below b9 b2_8.lt
  have F9 := below_then F8 (Nat.le_refl _) b9
  have bx_u9 := bx_9.cell0
  have bx_v9 := bx_9.cell1
  have bx_w9 := bx_9.cell2
  have b1_u9 := b1_9.cell0
  have b1_v9 := b1_9.cell1
  have b1_w9 := b1_9.cell2
  have b2_u9 := b2_9.cell0
  have b2_v9 := b2_9.cell1
  have b2_w9 := b2_9.cell2
  go_wp2_with fail
  refine (text_at _ _ _ _ _ _ _ z 201 M _ HM.out zz_9 hzs (by omega) (by omega)).mono ?_
  rintro e w10 ⟨rfl, b10⟩
  have h_10 := h_9.below b10
  have y_10 := y_9.below b10
  have zz_10 := zz_9.below b10
  have bx_10 := bx_9.below b10 bx_9.lt
  have b1_10 := b1_9.below b10 b1_9.lt
  have b2_10 := b2_9.below b10 b2_9.lt
  have F10 := below_then F9 (Nat.le_refl _) b10
  have bx_u10 := bx_10.cell0
  have bx_v10 := bx_10.cell1
  have bx_w10 := bx_10.cell2
  have b1_u10 := b1_10.cell0
  have b1_v10 := b1_10.cell1
  have b1_w10 := b1_10.cell2
  have b2_u10 := b2_10.cell0
  have b2_v10 := b2_10.cell1
  have b2_w10 := b2_10.cell2
  go_wp2_with fail
  refine (parse_at M z 0 0 0 0 _ lm HZ.out rfl rfl).mono ?_
  rintro e w11 ⟨s11, A11, n11, c11, B11, m11, d11, rfl, zw, b11⟩
  have h_11 := h_10.below b11
  have y_11 := y_10.below b11
  have zz_11 := zz_10.below b11
  have bx_11 := bx_10.below b11 bx_10.lt
  have b1_11 := b1_10.below b11 b1_10.lt
  have b2_11 := b2_10.below b11 b2_10.lt
  have F11 := below_then F10 (Nat.le_refl _) b11
  have bx_u11 := bx_11.cell0
  have bx_v11 := bx_11.cell1
  have bx_w11 := bx_11.cell2
  have b1_u11 := b1_11.cell0
  have b1_v11 := b1_11.cell1
  have b1_w11 := b1_11.cell2
  have b2_u11 := b2_11.cell0
  have b2_v11 := b2_11.cell1
  have b2_w11 := b2_11.cell2
  have lt_b3_bx := bx_11.lt
  have lt_b3_b1 := b1_11.lt
  have lt_b3_b2 := b2_11.lt
  have h_12 := h_11.alloc (EQ s11 A11 n11 c11 B11 m11 d11)
  have y_12 := y_11.alloc (EQ s11 A11 n11 c11 B11 m11 d11)
  have zz_12 := zz_11.alloc (EQ s11 A11 n11 c11 B11 m11 d11)
  have zw_12 := zw.alloc (EQ s11 A11 n11 c11 B11 m11 d11)
  have bx_12 := bx_11.alloc (EQ s11 A11 n11 c11 B11 m11 d11)
  have b1_12 := b1_11.alloc (EQ s11 A11 n11 c11 B11 m11 d11)
  have b2_12 := b2_11.alloc (EQ s11 A11 n11 c11 B11 m11 d11)
  have b3_12 : Sq ((w11).alloc (EQ s11 A11 n11 c11 B11 m11 d11)) (w11.heap.size) (.bool s11) (.slice A11 n11 c11) (.slice B11 m11 d11) := by have h_ := Sq.new (w11) (.bool s11) (.slice A11 n11 c11) (.slice B11 m11 d11); exact h_
  have F12 := F11.alloc F11.size (EQ s11 A11 n11 c11 B11 m11 d11)
  have bx_u12 := bx_12.cell0
  have bx_v12 := bx_12.cell1
  have bx_w12 := bx_12.cell2
  have b1_u12 := b1_12.cell0
  have b1_v12 := b1_12.cell1
  have b1_w12 := b1_12.cell2
  have b2_u12 := b2_12.cell0
  have b2_v12 := b2_12.cell1
  have b2_w12 := b2_12.cell2
  have b3_u12 := b3_12.cell0
  have b3_v12 := b3_12.cell1
  have b3_w12 := b3_12.cell2
  go_wp2_with fail
  refine (same_q _ _ _ _ _ _ _ _ _ _ _ _ _ _ z _ zz_12 zw_12 (Nat.le_trans (zz_12.ln z1) k201) (Nat.le_trans (zz_12.ld z2) k201)).mono ?_
  rintro e w13 ⟨rfl, b13⟩
  have h_13 := h_12.below b13
  have y_13 := y_12.below b13
  have zz_13 := zz_12.below b13
  have zw_13 := zw_12.below b13
  have bx_13 := bx_12.below b13 bx_12.lt
  have b1_13 := b1_12.below b13 b1_12.lt
  have b2_13 := b2_12.below b13 b2_12.lt
  have b3_13 := b3_12.below b13 b3_12.lt
  have F13 := below_then F12 (Nat.le_refl _) b13
  have bx_u13 := bx_13.cell0
  have bx_v13 := bx_13.cell1
  have bx_w13 := bx_13.cell2
  have b1_u13 := b1_13.cell0
  have b1_v13 := b1_13.cell1
  have b1_w13 := b1_13.cell2
  have b2_u13 := b2_13.cell0
  have b2_v13 := b2_13.cell1
  have b2_w13 := b2_13.cell2
  have b3_u13 := b3_13.cell0
  have b3_v13 := b3_13.cell1
  have b3_w13 := b3_13.cell2
  go_wp2
  go_ret
  exact ⟨rfl, F13⟩
theorem lr_err (s : Bool) (A : Option Addr) (n c : Nat) (B : Option Addr) (m d : Nat) (q : Rat) (l : List UInt8) (w : World) (h : Cq w s A n c B m d q) (hn : n ≤ 8) (hm : m ≤ 8) (hl : l.length ≤ 200) (he : (pparse l).2.2 ≠ 0) : Calls Tryd.prog 6 #[.agg #[.bool s, .slice A n c, .slice B m d], .string (bs l)] w (fun e w' => e = .returned (.bool true) ∧ Below w.heap.size w w') := by
  have hs : Qs 8 q := h.iq.size hn hm (by omega)
  have k1 : 8 ≤ 1000 := by omega
  have k2 : 1 ≤ 8 := by omega
  have k3 : 8 ≤ 16384 := by omega
  have hz := bs_size l
  have d1 : decide (200 < (l.length : Int)) = false := by simp; omega
  have hb := text_back q 8 hs (by omega) k2
  obtain ⟨L, hL⟩ : ∃ L, txt q = L := ⟨_, rfl⟩
  rw [hL] at hb
  have HL := hide hL
  have HB := hide hb.1
  have lb : L.length ≤ 100000 := hb.2
  have hq1 : q.num.natAbs < pw 8 := hs.1
  have hq2 : q.den < pw 8 := hs.2
  have hl5 : l.length ≤ 100000 := by omega
  have n1 : n ≤ 16384 := by omega
  have n2 : m ≤ 16384 := by omega
  have hzz := parse_back l hl
  have hzs := parse_qs l 201 (by omega)
  obtain ⟨r, hr⟩ : ∃ r, pparse l = r := ⟨_, rfl⟩
  obtain ⟨z, i, k⟩ := r
  rw [hr] at hzs hzz
  obtain ⟨I, hI⟩ : ∃ I : Int, (i : Int) = I := ⟨_, rfl⟩
  have HR := hide hr
  have HI := hide hI
  rw [hr] at he
  have hk0 : k ≠ 0 := he
  obtain ⟨E, hE⟩ : ∃ I : Int, (k : Int) = I := ⟨_, rfl⟩
  have e1 : (E != 0) = true := by simp; omega
  have HE := hide hE
  clear he hzz hzs hr hI hL hb hE hk0
  have h_1 := h.alloc (EQ s A n c B m d)
  have bx_1 : Sq ((w).alloc (EQ s A n c B m d)) (w.heap.size) (.bool s) (.slice A n c) (.slice B m d) := by have h_ := Sq.new (w) (.bool s) (.slice A n c) (.slice B m d); exact h_
  have F1 := (Below.refl w.heap.size w).alloc (Nat.le_refl _) (EQ s A n c B m d)
  go_enter Tryd.func6, Tryd.ntmps6
  go_wp2_with fail
  refine (awake4 _).mono ?_
  rintro e w2 ⟨rfl, b2⟩
  have h_2 := h_1.below b2
  have bx_2 := bx_1.below b2 bx_1.lt
  have F2 := below_then F1 (Nat.le_refl _) b2
  have bx_u2 := bx_2.cell0
  have bx_v2 := bx_2.cell1
  have bx_w2 := bx_2.cell2
  go_wp2_with fail
  refine (fair_yes _ _ _ _ _ _ _ q _ h_2 hn hm).mono ?_
  rintro e w3 ⟨rfl, b3⟩
  have h_3 := h_2.below b3
  have bx_3 := bx_2.below b3 bx_2.lt
  have F3 := below_then F2 (Nat.le_refl _) b3
  have bx_u3 := bx_3.cell0
  have bx_v3 := bx_3.cell1
  have bx_w3 := bx_3.cell2
  go_wp2_with fail
  refine (text_at _ _ _ _ _ _ _ q 8 L _ HL.out h_3 hs k1 k2).mono ?_
  rintro e w4 ⟨rfl, b4⟩
  have h_4 := h_3.below b4
  have bx_4 := bx_3.below b4 bx_3.lt
  have F4 := below_then F3 (Nat.le_refl _) b4
  have bx_u4 := bx_4.cell0
  have bx_v4 := bx_4.cell1
  have bx_w4 := bx_4.cell2
  go_wp2_with fail
  refine (parse_at L q 0 0 0 0 _ lb HB.out rfl rfl).mono ?_
  rintro e w5 ⟨s5, A5, n5, c5, B5, m5, d5, rfl, y, b5⟩
  have h_5 := h_4.below b5
  have bx_5 := bx_4.below b5 bx_4.lt
  have F5 := below_then F4 (Nat.le_refl _) b5
  have bx_u5 := bx_5.cell0
  have bx_v5 := bx_5.cell1
  have bx_w5 := bx_5.cell2
  have lt_b1_bx := bx_5.lt
  have h_6 := h_5.alloc (EQ s5 A5 n5 c5 B5 m5 d5)
  have y_6 := y.alloc (EQ s5 A5 n5 c5 B5 m5 d5)
  have bx_6 := bx_5.alloc (EQ s5 A5 n5 c5 B5 m5 d5)
  have b1_6 : Sq ((w5).alloc (EQ s5 A5 n5 c5 B5 m5 d5)) (w5.heap.size) (.bool s5) (.slice A5 n5 c5) (.slice B5 m5 d5) := by have h_ := Sq.new (w5) (.bool s5) (.slice A5 n5 c5) (.slice B5 m5 d5); exact h_
  have F6 := F5.alloc F5.size (EQ s5 A5 n5 c5 B5 m5 d5)
  have bx_u6 := bx_6.cell0
  have bx_v6 := bx_6.cell1
  have bx_w6 := bx_6.cell2
  have b1_u6 := b1_6.cell0
  have b1_v6 := b1_6.cell1
  have b1_w6 := b1_6.cell2
  go_wp2_with fail
  refine (parse_at l z i k I E _ hl5 HR.out HI.out HE.out).mono ?_
  rintro e w7 ⟨s7, A7, n7, c7, B7, m7, d7, rfl, zz, b7⟩
  have h_7 := h_6.below b7
  have y_7 := y_6.below b7
  have bx_7 := bx_6.below b7 bx_6.lt
  have b1_7 := b1_6.below b7 b1_6.lt
  have F7 := below_then F6 (Nat.le_refl _) b7
  have bx_u7 := bx_7.cell0
  have bx_v7 := bx_7.cell1
  have bx_w7 := bx_7.cell2
  have b1_u7 := b1_7.cell0
  have b1_v7 := b1_7.cell1
  have b1_w7 := b1_7.cell2
  have lt_b2_bx := bx_7.lt
  have lt_b2_b1 := b1_7.lt
  have h_8 := h_7.alloc (EQ s7 A7 n7 c7 B7 m7 d7)
  have y_8 := y_7.alloc (EQ s7 A7 n7 c7 B7 m7 d7)
  have zz_8 := zz.alloc (EQ s7 A7 n7 c7 B7 m7 d7)
  have bx_8 := bx_7.alloc (EQ s7 A7 n7 c7 B7 m7 d7)
  have b1_8 := b1_7.alloc (EQ s7 A7 n7 c7 B7 m7 d7)
  have b2_8 : Sq ((w7).alloc (EQ s7 A7 n7 c7 B7 m7 d7)) (w7.heap.size) (.bool s7) (.slice A7 n7 c7) (.slice B7 m7 d7) := by have h_ := Sq.new (w7) (.bool s7) (.slice A7 n7 c7) (.slice B7 m7 d7); exact h_
  have F8 := F7.alloc F7.size (EQ s7 A7 n7 c7 B7 m7 d7)
  have bx_u8 := bx_8.cell0
  have bx_v8 := bx_8.cell1
  have bx_w8 := bx_8.cell2
  have b1_u8 := b1_8.cell0
  have b1_v8 := b1_8.cell1
  have b1_w8 := b1_8.cell2
  have b2_u8 := b2_8.cell0
  have b2_v8 := b2_8.cell1
  have b2_w8 := b2_8.cell2
  go_wp2_with fail
  refine (same_q _ _ _ _ _ _ _ _ _ _ _ _ _ _ q _ h_8 y_8 n1 n2).mono ?_
  rintro e w9 ⟨rfl, b9⟩
  have h_9 := h_8.below b9
  have y_9 := y_8.below b9
  have zz_9 := zz_8.below b9
  have bx_9 := bx_8.below b9 bx_8.lt
  have b1_9 := b1_8.below b9 b1_8.lt
  have b2_9 := b2_8.below b9 b2_8.lt
  have F9 := below_then F8 (Nat.le_refl _) b9
  have bx_u9 := bx_9.cell0
  have bx_v9 := bx_9.cell1
  have bx_w9 := bx_9.cell2
  have b1_u9 := b1_9.cell0
  have b1_v9 := b1_9.cell1
  have b1_w9 := b1_9.cell2
  have b2_u9 := b2_9.cell0
  have b2_v9 := b2_9.cell1
  have b2_w9 := b2_9.cell2
  go_wp2
  go_ret
  exact ⟨rfl, F9⟩
end Go.Proofs.YtjpchbcenbjibaaDoor
