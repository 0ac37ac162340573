/-
  The walk of DecimalRounding.
-/
import Derived.Test.YtjpchbcenbjibaaGreatDoorG2
namespace Go.Proofs.YtjpchbcenbjibaaGreatDoor
open Go.RowKit
set_option linter.unusedVariables false
set_option linter.unusedSimpArgs false

theorem lo_no (s : Bool) (A : Option Addr) (n c : Nat) (B : Option Addr) (m d : Nat) (P : Int) (xs ys : List Nat) (w : World) (hx : Rd w A n c xs) (hy : Rd w B m d ys) (h : ¬ (n ≤ 8 ∧ m ≤ 8 ∧ isC s xs ys = true)) : Calls Tryz.prog 4 #[.agg #[.bool s, .slice A n c, .slice B m d], .int .i64 P] w (fun e w' => e = .returned (.bool true) ∧ Below w.heap.size w w') := by
  have HN := hide h
  clear h
  have hx_1 := hx.alloc (EQ s A n c B m d)
  have hy_1 := hy.alloc (EQ s A n c B m d)
  have bx_1 : Sq ((w).alloc (EQ s A n c B m d)) (w.heap.size) (.bool s) (.slice A n c) (.slice B m d) := by have h_ := Sq.new (w) (.bool s) (.slice A n c) (.slice B m d); exact h_
  have F1 := (Below.refl w.heap.size w).alloc (Nat.le_refl _) (EQ s A n c B m d)
  go_enter Tryz.func4, Tryz.ntmps4
  go_wp2_with fail
  refine (awake4 _).mono ?_
  rintro e w2 ⟨rfl, b2⟩
  have hx_2 := hx_1.below b2
  have hy_2 := hy_1.below b2
  have bx_2 := bx_1.below b2 bx_1.lt
  have F2 := below_then F1 (Nat.le_refl _) b2
  have bx_u2 := bx_2.cell0
  have bx_v2 := bx_2.cell1
  have bx_w2 := bx_2.cell2
  go_wp2_with fail
  refine (fair_not _ _ _ _ _ _ _ xs ys _ hx_2 hy_2 HN.out).mono ?_
  rintro e w3 ⟨rfl, b3⟩
  have hx_3 := hx_2.below b3
  have hy_3 := hy_2.below b3
  have bx_3 := bx_2.below b3 bx_2.lt
  have F3 := below_then F2 (Nat.le_refl _) b3
  have bx_u3 := bx_3.cell0
  have bx_v3 := bx_3.cell1
  have bx_w3 := bx_3.cell2
  go_wp2_with fail
  refine (awake4 _).mono ?_
  rintro e w4 ⟨rfl, b4⟩
  have hx_4 := hx_3.below b4
  have hy_4 := hy_3.below b4
  have bx_4 := bx_3.below b4 bx_3.lt
  have F4 := below_then F3 (Nat.le_refl _) b4
  have bx_u4 := bx_4.cell0
  have bx_v4 := bx_4.cell1
  have bx_w4 := bx_4.cell2
  go_wp2
  go_ret
  exact ⟨rfl, F4⟩
theorem lo_neg (s : Bool) (A : Option Addr) (n c : Nat) (B : Option Addr) (m d : Nat) (q : Rat) (P : Int) (w : World) (h : Cq w s A n c B m d q) (hn : n ≤ 8) (hm : m ≤ 8) (h1 : P < 0) : Calls Tryz.prog 4 #[.agg #[.bool s, .slice A n c, .slice B m d], .int .i64 P] w (fun e w' => e = .returned (.bool true) ∧ Below w.heap.size w w') := by
  have d1 : decide (P < 0) = true := decide_eq_true h1
  have h_1 := h.alloc (EQ s A n c B m d)
  have bx_1 : Sq ((w).alloc (EQ s A n c B m d)) (w.heap.size) (.bool s) (.slice A n c) (.slice B m d) := by have h_ := Sq.new (w) (.bool s) (.slice A n c) (.slice B m d); exact h_
  have F1 := (Below.refl w.heap.size w).alloc (Nat.le_refl _) (EQ s A n c B m d)
  go_enter Tryz.func4, Tryz.ntmps4
  go_wp2_with fail
  refine (awake4 _).mono ?_
  rintro e w2 ⟨rfl, b2⟩
  have h_2 := h_1.below b2
  have bx_2 := bx_1.below b2 bx_1.lt
  have F2 := below_then F1 (Nat.le_refl _) b2
  have bx_u2 := bx_2.cell0
  have bx_v2 := bx_2.cell1
  have bx_w2 := bx_2.cell2
  go_wp2_with fail
  refine (fair_yes _ _ _ _ _ _ _ q _ h_2 hn hm).mono ?_
  rintro e w3 ⟨rfl, b3⟩
  have h_3 := h_2.below b3
  have bx_3 := bx_2.below b3 bx_2.lt
  have F3 := below_then F2 (Nat.le_refl _) b3
  have bx_u3 := bx_3.cell0
  have bx_v3 := bx_3.cell1
  have bx_w3 := bx_3.cell2
  go_wp2_with fail
  refine (awake4 _).mono ?_
  rintro e w4 ⟨rfl, b4⟩
  have h_4 := h_3.below b4
  have bx_4 := bx_3.below b4 bx_3.lt
  have F4 := below_then F3 (Nat.le_refl _) b4
  have bx_u4 := bx_4.cell0
  have bx_v4 := bx_4.cell1
  have bx_w4 := bx_4.cell2
  go_wp2
  go_ret
  exact ⟨rfl, F4⟩
theorem lo_big (s : Bool) (A : Option Addr) (n c : Nat) (B : Option Addr) (m d : Nat) (q : Rat) (P : Int) (w : World) (h : Cq w s A n c B m d q) (hn : n ≤ 8) (hm : m ≤ 8) (h1 : 40 < P) : Calls Tryz.prog 4 #[.agg #[.bool s, .slice A n c, .slice B m d], .int .i64 P] w (fun e w' => e = .returned (.bool true) ∧ Below w.heap.size w w') := by
  have d1 : decide (P < 0) = false := decide_eq_false (by omega)
  have d2 : decide (40 < P) = true := decide_eq_true h1
  have h_1 := h.alloc (EQ s A n c B m d)
  have bx_1 : Sq ((w).alloc (EQ s A n c B m d)) (w.heap.size) (.bool s) (.slice A n c) (.slice B m d) := by have h_ := Sq.new (w) (.bool s) (.slice A n c) (.slice B m d); exact h_
  have F1 := (Below.refl w.heap.size w).alloc (Nat.le_refl _) (EQ s A n c B m d)
  go_enter Tryz.func4, Tryz.ntmps4
  go_wp2_with fail
  refine (awake4 _).mono ?_
  rintro e w2 ⟨rfl, b2⟩
  have h_2 := h_1.below b2
  have bx_2 := bx_1.below b2 bx_1.lt
  have F2 := below_then F1 (Nat.le_refl _) b2
  have bx_u2 := bx_2.cell0
  have bx_v2 := bx_2.cell1
  have bx_w2 := bx_2.cell2
  go_wp2_with fail
  refine (fair_yes _ _ _ _ _ _ _ q _ h_2 hn hm).mono ?_
  rintro e w3 ⟨rfl, b3⟩
  have h_3 := h_2.below b3
  have bx_3 := bx_2.below b3 bx_2.lt
  have F3 := below_then F2 (Nat.le_refl _) b3
  have bx_u3 := bx_3.cell0
  have bx_v3 := bx_3.cell1
  have bx_w3 := bx_3.cell2
  go_wp2_with fail
  refine (awake4 _).mono ?_
  rintro e w4 ⟨rfl, b4⟩
  have h_4 := h_3.below b4
  have bx_4 := bx_3.below b4 bx_3.lt
  have F4 := below_then F3 (Nat.le_refl _) b4
  have bx_u4 := bx_4.cell0
  have bx_v4 := bx_4.cell1
  have bx_w4 := bx_4.cell2
  go_wp2
  go_ret
  exact ⟨rfl, F4⟩
theorem fixn_pw {q : Rat} {K p : Nat} (h : Qs K q) : fixn q p < pw (K + (p + 1) + 1 + 1) := by
  have a1 := mul_pw (mul_pw h.1 (ten_lt_pw p)) (show 2 < pw 1 by decide)
  have a2 : q.den < pw (K + (p + 1) + 1) := Nat.lt_of_lt_of_le h.2 (pw_mono (by omega))
  exact Nat.lt_of_le_of_lt (Nat.div_le_self _ _) (add_pw a1 a2)
theorem ffix_len (q : Rat) (p : Nat) : (ffix q p).length ≤ 2 + (padz p (dtx (fixn q p))).length := by
  unfold ffix
  simp only
  generalize padz p (dtx (fixn q p)) = s
  rw [List.length_append]
  have h1 : (if q.num < 0 ∧ fixn q p ≠ 0 then [45] else ([] : List UInt8)).length ≤ 1 := by split <;> decide
  have h2 : (if p = 0 then s else s.take (s.length - p) ++ 46 :: s.drop (s.length - p)).length ≤ 1 + s.length := by
    split
    · omega
    · rw [List.length_append, List.length_cons, List.length_take, List.length_drop]; omega
  omega
theorem fix_back (q : Rat) (K p : Nat) (h : Qs K q) (hK : K ≤ 100) (hp : p ≤ 100) : pparse (ffix q p) = (fixq q p, 0, 0) ∧ (ffix q p).length ≤ 3000 := by
  have h1 := dtx_pw (fixn_pw (p := p) h) (by omega)
  have h2 := ffix_len q p
  have h3 := padz_max (p := p) (l := dtx (fixn q p)) (k := 2040) (by omega) (by omega)
  exact ⟨pparse_ffix q p (by omega) (by omega), by omega⟩
theorem lpower_at (p : Nat) (P : Int) (T : Rat) (w : World) (hP : P = (p : Int)) (hT : ((10 ^ p : Nat) : Rat) = T) (hp : p ≤ 1000) : Calls Tryz.prog 13 #[.int .i64 P] w (GQ w T) := by
  subst hP hT
  exact lpower p w hp
theorem two_1 : Qs 1 ((2 : Int) : Rat) := ⟨by decide +kernel, by decide +kernel⟩
theorem one_1 : Qs 1 ((1 : Int) : Rat) := ⟨by decide +kernel, by decide +kernel⟩
theorem neg_1 : Qs 1 ((-1 : Int) : Rat) := ⟨by decide +kernel, by decide +kernel⟩
theorem fixq_qs (q : Rat) (K p : Nat) (h : Qs K q) : Qs (K + (p + 1) + 1 + 1) (fixq q p) := by
  have h1 := fixn_pw (p := p) h
  have s := sgnq_parts (decide (q.num < 0 ∧ fixn q p ≠ 0)) ((fixn q p : Nat) / (10 ^ p : Nat))
  have n := div_parts (fixn q p) (10 ^ p) (Nat.ne_of_gt (Nat.pow_pos (by decide)))
  have t := ten_lt_pw p
  have m := pw_mono (show p + 1 ≤ K + (p + 1) + 1 + 1 by omega)
  unfold fixq
  refine ⟨?_, ?_⟩
  · rw [s.1]; omega
  · rw [s.2]; omega
theorem fixed_at2 (s : Bool) (A : Option Addr) (n c : Nat) (B : Option Addr) (m d : Nat) (q : Rat) (K p : Nat) (P : Int) (L : List UInt8) (w : World) (hP : P = (p : Int)) (hL : ffix q p = L) (h : Cq w s A n c B m d q) (hs : Qs K q) (hK : K ≤ 1000) (hK1 : 1 ≤ K) (hp : p ≤ 4000) :
    Calls Tryz.prog 8 #[.agg #[.bool s, .slice A n c, .slice B m d], .int .i64 P] w (Asks w (.tuple #[.string (bs L), .int .i64 0])) := fixed_at s A n c B m d q K p P L w hP hL h hs hK hK1 hp
theorem lo_yes (s : Bool) (A : Option Addr) (n c : Nat) (B : Option Addr) (m d : Nat) (q : Rat) (P : Int) (w : World) (h : Cq w s A n c B m d q) (hn : n ≤ 8) (hm : m ≤ 8) (h1 : 0 ≤ P) (h2 : P ≤ 40) : Calls Tryz.prog 4 #[.agg #[.bool s, .slice A n c, .slice B m d], .int .i64 P] w (fun e w' => e = .returned (.bool true) ∧ Below w.heap.size w w') := by
  have hs : Qs 8 q := h.iq.size hn hm (by omega)
  have k1 : 8 ≤ 1000 := by omega
  have k2 : 1 ≤ 8 := by omega
  have k3 : 8 ≤ 16384 := by omega
  have d1 : decide (P < 0) = false := decide_eq_false (by omega)
  have d2 : decide (40 < P) = false := decide_eq_false (by omega)
  obtain ⟨p, hp⟩ : ∃ p : Nat, P = (p : Int) := ⟨P.toNat, by omega⟩
  have hp40 : p ≤ 40 := by omega
  have k4 : p ≤ 4000 := by omega
  have hb := fix_back q 8 p hs (by omega) (by omega)
  obtain ⟨L, hL⟩ : ∃ L, ffix q p = L := ⟨_, rfl⟩
  have hy := (fixq_qs q 8 p hs).mono (show 8 + (p + 1) + 1 + 1 ≤ 60 by omega)
  have hrb := round_bd q p
  obtain ⟨y, hyq⟩ : ∃ y, fixq q p = y := ⟨_, rfl⟩
  obtain ⟨T, hT⟩ : ∃ T : Rat, ((10 ^ p : Nat) : Rat) = T := ⟨_, rfl⟩
  have hTs := (ten_q p).mono (show p + 1 ≤ 41 by omega)
  rw [hyq] at hb hy hrb
  rw [hT] at hrb hTs
  rw [hL] at hb
  have hd1 : Qs 69 (q - y) := size_sub hs hy
  have hd2 : Qs 42 (T * ((2 : Int) : Rat)) := size_mul hTs two_1
  have hd3 : Qs 111 ((q - y) * (T * ((2 : Int) : Rat))) := size_mul hd1 hd2
  obtain ⟨D, hD⟩ : ∃ D, (q - y) * (T * ((2 : Int) : Rat)) = D := ⟨_, rfl⟩
  rw [show ((2 : Rat)) = ((2 : Int) : Rat) from rfl, hD] at hrb
  rw [hD] at hd3
  obtain ⟨r1, hr1⟩ : ∃ r, sz (D - ((1 : Int) : Rat)).num = r := ⟨_, rfl⟩
  obtain ⟨r2, hr2⟩ : ∃ r, sz (D - ((-1 : Int) : Rat)).num = r := ⟨_, rfl⟩
  have t1 : decide (r1 ≤ 0) = true := decide_eq_true (by rw [← hr1]; exact cmp_le.2 hrb.1)
  have t2 : decide (0 ≤ r2) = true := decide_eq_true (by
    rw [← hr2, sz_swap]
    have := cmp_le (p := ((-1 : Int) : Rat)) (q := D)
    have h3 : ((-1 : Int) : Rat) ≤ D := hrb.2
    have h4 := this.2 h3
    omega)
  have HL := hide hL
  have HB := hide hb.1
  have lb : L.length ≤ 100000 := by have := hb.2; omega
  have HP := hide hp
  have HD := hide hD
  have HR1 := hide hr1
  have HR2 := hide hr2
  have HT := hide hT
  have hq1 := hs.1
  have hq2 := hs.2
  have n1 : n ≤ 4000 := by omega
  have n2 : m ≤ 4000 := by omega
  have k60 : 60 ≤ 4000 := by omega
  have k69 : 69 ≤ 4000 := by omega
  have k42 : 42 ≤ 4000 := by omega
  have k41 : 41 ≤ 4000 := by omega
  have k11 : 111 ≤ 4000 := by omega
  have k01 : 1 ≤ 4000 := by omega
  have hpw : p ≤ 1000 := by omega
  have y1 := hy.1
  have y2 := hy.2
  have a1 := hd1.1
  have a2 := hd1.2
  have b1_ := hd2.1
  have b2_ := hd2.2
  have c1_ := hd3.1
  have c2_ := hd3.2
  have e1_ := hTs.1
  have e2_ := hTs.2
  have o1_ := one_1.1
  have o2_ := one_1.2
  have v1_ := neg_1.1
  have v2_ := neg_1.2
  have w1_ := two_1.1
  have w2_ := two_1.2
  clear hL hb hp hD hr1 hr2 hrb hyq hT h1 h2
  have h_1 := h.alloc (EQ s A n c B m d)
  have bx_1 : Sq ((w).alloc (EQ s A n c B m d)) (w.heap.size) (.bool s) (.slice A n c) (.slice B m d) := by have h_ := Sq.new (w) (.bool s) (.slice A n c) (.slice B m d); exact h_
  have F1 := (Below.refl w.heap.size w).alloc (Nat.le_refl _) (EQ s A n c B m d)
  go_enter Tryz.func4, Tryz.ntmps4
  go_wp2_with fail
  refine (awake4 _).mono ?_
  rintro e w2 ⟨rfl, b2⟩
  have h_2 := h_1.below b2
  have bx_2 := bx_1.below b2 bx_1.lt
  have F2 := below_then F1 (Nat.le_refl _) b2
  have bx_u2 := bx_2.cell0
  have bx_v2 := bx_2.cell1
  have bx_w2 := bx_2.cell2
  go_wp2_with fail
  refine (fair_yes _ _ _ _ _ _ _ q _ h_2 hn hm).mono ?_
  rintro e w3 ⟨rfl, b3⟩
  have h_3 := h_2.below b3
  have bx_3 := bx_2.below b3 bx_2.lt
  have F3 := below_then F2 (Nat.le_refl _) b3
  have bx_u3 := bx_3.cell0
  have bx_v3 := bx_3.cell1
  have bx_w3 := bx_3.cell2
  go_wp2_with fail
  refine (fixed_at _ _ _ _ _ _ _ q 8 p P L _ HP.out HL.out h_3 hs k1 k2 k4).mono ?_
  rintro e w4 ⟨rfl, b4⟩
  have h_4 := h_3.below b4
  have bx_4 := bx_3.below b4 bx_3.lt
  have F4 := below_then F3 (Nat.le_refl _) b4
  have bx_u4 := bx_4.cell0
  have bx_v4 := bx_4.cell1
  have bx_w4 := bx_4.cell2
  go_wp2_with fail
  refine (parse_at L y 0 0 0 0 _ lb HB.out rfl rfl).mono ?_
  rintro e w5 ⟨s5, A5, n5, c5, B5, m5, d5, rfl, yy, b5⟩
  have h_5 := h_4.below b5
  have bx_5 := bx_4.below b5 bx_4.lt
  have F5 := below_then F4 (Nat.le_refl _) b5
  have bx_u5 := bx_5.cell0
  have bx_v5 := bx_5.cell1
  have bx_w5 := bx_5.cell2
  have lt_bz_bx := bx_5.lt
  have h_6 := h_5.alloc (EQ s5 A5 n5 c5 B5 m5 d5)
  have yy_6 := yy.alloc (EQ s5 A5 n5 c5 B5 m5 d5)
  have bx_6 := bx_5.alloc (EQ s5 A5 n5 c5 B5 m5 d5)
  have bz_6 : Sq ((w5).alloc (EQ s5 A5 n5 c5 B5 m5 d5)) (w5.heap.size) (.bool s5) (.slice A5 n5 c5) (.slice B5 m5 d5) := by have h_ := Sq.new (w5) (.bool s5) (.slice A5 n5 c5) (.slice B5 m5 d5); exact h_
  have F6 := F5.alloc F5.size (EQ s5 A5 n5 c5 B5 m5 d5)
  have bx_u6 := bx_6.cell0
  have bx_v6 := bx_6.cell1
  have bx_w6 := bx_6.cell2
  have bz_u6 := bz_6.cell0
  have bz_v6 := bz_6.cell1
  have bz_w6 := bz_6.cell2
  go_wp2_with fail
  refine (rsub_q _ _ _ _ _ _ _ _ _ _ _ _ _ _ q y (q - y) _ rfl h_6.iq yy_6.iq n1 n2 (Nat.le_trans (yy_6.ln y1) k60) (Nat.le_trans (yy_6.ld y2) k60)).mono ?_
  rintro e w7 ⟨s7, A7, n7, c7, B7, m7, d7, rfl, df, b7⟩
  have h_7 := h_6.below b7
  have yy_7 := yy_6.below b7
  have bx_7 := bx_6.below b7 bx_6.lt
  have bz_7 := bz_6.below b7 bz_6.lt
  have F7 := below_then F6 (Nat.le_refl _) b7
  have bx_u7 := bx_7.cell0
  have bx_v7 := bx_7.cell1
  have bx_w7 := bx_7.cell2
  have bz_u7 := bz_7.cell0
  have bz_v7 := bz_7.cell1
  have bz_w7 := bz_7.cell2
  go_wp2_with fail
  refine (lpower_at p P T _ HP.out HT.out hpw).mono ?_
  rintro e w8 ⟨s8, A8, n8, c8, B8, m8, d8, rfl, tp, b8⟩
  have h_8 := h_7.below b8
  have yy_8 := yy_7.below b8
  have df_8 := df.below b8
  have bx_8 := bx_7.below b8 bx_7.lt
  have bz_8 := bz_7.below b8 bz_7.lt
  have F8 := below_then F7 (Nat.le_refl _) b8
  have bx_u8 := bx_8.cell0
  have bx_v8 := bx_8.cell1
  have bx_w8 := bx_8.cell2
  have bz_u8 := bz_8.cell0
  have bz_v8 := bz_8.cell1
  have bz_w8 := bz_8.cell2
  go_wp2_with fail
  refine (rof_q 2 _ (by omega) (by omega)).mono ?_
  rintro e w9 ⟨s9, A9, n9, c9, B9, m9, d9, rfl, tw, b9⟩
  have h_9 := h_8.below b9
  have yy_9 := yy_8.below b9
  have df_9 := df_8.below b9
  have tp_9 := tp.below b9
  have bx_9 := bx_8.below b9 bx_8.lt
  have bz_9 := bz_8.below b9 bz_8.lt
  have F9 := below_then F8 (Nat.le_refl _) b9
  have bx_u9 := bx_9.cell0
  have bx_v9 := bx_9.cell1
  have bx_w9 := bx_9.cell2
  have bz_u9 := bz_9.cell0
  have bz_v9 := bz_9.cell1
  have bz_w9 := bz_9.cell2
  go_wp2_with fail
  refine (rmul_q _ _ _ _ _ _ _ _ _ _ _ _ _ _ T ((2 : Int) : Rat) _ _ rfl tp_9.iq tw.iq (Nat.le_trans (tp_9.ln e1_) k41) (Nat.le_trans (tp_9.ld e2_) k41) (Nat.le_trans (tw.ln w1_) k01) (Nat.le_trans (tw.ld w2_) k01)).mono ?_
  rintro e w10 ⟨s10, A10, n10, c10, B10, m10, d10, rfl, tt, b10⟩
  have h_10 := h_9.below b10
  have yy_10 := yy_9.below b10
  have df_10 := df_9.below b10
  have tp_10 := tp_9.below b10
  have tw_10 := tw.below b10
  have bx_10 := bx_9.below b10 bx_9.lt
  have bz_10 := bz_9.below b10 bz_9.lt
  have F10 := below_then F9 (Nat.le_refl _) b10
  have bx_u10 := bx_10.cell0
  have bx_v10 := bx_10.cell1
  have bx_w10 := bx_10.cell2
  have bz_u10 := bz_10.cell0
  have bz_v10 := bz_10.cell1
  have bz_w10 := bz_10.cell2
  go_wp2_with fail
  refine (rmul_q _ _ _ _ _ _ _ _ _ _ _ _ _ _ (q - y) (T * ((2 : Int) : Rat)) D _ HD.out df_10.iq tt.iq (Nat.le_trans (df_10.ln a1) k69) (Nat.le_trans (df_10.ld a2) k69) (Nat.le_trans (tt.ln b1_) k42) (Nat.le_trans (tt.ld b2_) k42)).mono ?_
  rintro e w11 ⟨s11, A11, n11, c11, B11, m11, d11, rfl, dd, b11⟩
  have h_11 := h_10.below b11
  have yy_11 := yy_10.below b11
  have df_11 := df_10.below b11
  have tp_11 := tp_10.below b11
  have tw_11 := tw_10.below b11
  have tt_11 := tt.below b11
  have bx_11 := bx_10.below b11 bx_10.lt
  have bz_11 := bz_10.below b11 bz_10.lt
  have F11 := below_then F10 (Nat.le_refl _) b11
  have bx_u11 := bx_11.cell0
  have bx_v11 := bx_11.cell1
  have bx_w11 := bx_11.cell2
  have bz_u11 := bz_11.cell0
  have bz_v11 := bz_11.cell1
  have bz_w11 := bz_11.cell2
  have lt_be_bx := bx_11.lt
  have lt_be_bz := bz_11.lt
  have h_12 := h_11.alloc (EQ s11 A11 n11 c11 B11 m11 d11)
  have yy_12 := yy_11.alloc (EQ s11 A11 n11 c11 B11 m11 d11)
  have dd_12 := dd.alloc (EQ s11 A11 n11 c11 B11 m11 d11)
  have bx_12 := bx_11.alloc (EQ s11 A11 n11 c11 B11 m11 d11)
  have bz_12 := bz_11.alloc (EQ s11 A11 n11 c11 B11 m11 d11)
  have be_12 : Sq ((w11).alloc (EQ s11 A11 n11 c11 B11 m11 d11)) (w11.heap.size) (.bool s11) (.slice A11 n11 c11) (.slice B11 m11 d11) := by have h_ := Sq.new (w11) (.bool s11) (.slice A11 n11 c11) (.slice B11 m11 d11); exact h_
  have F12 := F11.alloc F11.size (EQ s11 A11 n11 c11 B11 m11 d11)
  have bx_u12 := bx_12.cell0
  have bx_v12 := bx_12.cell1
  have bx_w12 := bx_12.cell2
  have bz_u12 := bz_12.cell0
  have bz_v12 := bz_12.cell1
  have bz_w12 := bz_12.cell2
  have be_u12 := be_12.cell0
  have be_v12 := be_12.cell1
  have be_w12 := be_12.cell2
  go_wp2_with fail
  have h_13 := h_12.drew
  have yy_13 := yy_12.drew
  have dd_13 := dd_12.drew
  have bx_13 := bx_12.drew
  have bz_13 := bz_12.drew
  have be_13 := be_12.drew
  have F13 := F12.drew
  go_region_held3 (fun w' => w'.cell? ⟨w11.heap.size, 0, none⟩ = some (.bool s11) ∧ w'.cell? ⟨w11.heap.size, 1, none⟩ = some (.slice A11 n11 c11) ∧ w'.cell? ⟨w11.heap.size, 2, none⟩ = some (.slice B11 m11 d11))
    (first
      | with_reducible exact ⟨be_17.cell0, be_17.cell1, be_17.cell2⟩
      | with_reducible exact ⟨be_16.cell0, be_16.cell1, be_16.cell2⟩
      | with_reducible exact ⟨be_15.cell0, be_15.cell1, be_15.cell2⟩
      | with_reducible exact ⟨be_14.cell0, be_14.cell1, be_14.cell2⟩
      | with_reducible exact ⟨be_13.cell0, be_13.cell1, be_13.cell2⟩
      | fail)
    (first
      | (go_at_call 14; (with_reducible refine (rof_q 1 _ (by omega) (by omega)).mono ?_); rintro e w14 ⟨s14, A14, n14, c14, B14, m14, d14, rfl, on, b14⟩; have h_14 := h_13.below b14; have yy_14 := yy_13.below b14; have dd_14 := dd_13.below b14; have bx_14 := bx_13.below b14 bx_13.lt; have bz_14 := bz_13.below b14 bz_13.lt; have be_14 := be_13.below b14 be_13.lt; have F14 := below_then F13 (Nat.le_refl _) b14)
      | (go_at_call 15; (with_reducible refine (rcmp_q _ _ _ _ _ _ _ _ _ _ _ _ _ _ D ((1 : Int) : Rat) r1 _ HR1.out dd_14.iq on.iq (Nat.le_trans (dd_14.ln c1_) k11) (Nat.le_trans (dd_14.ld c2_) k11) (Nat.le_trans (on.ln o1_) k01) (Nat.le_trans (on.ld o2_) k01)).mono ?_); rintro e w15 ⟨rfl, b15⟩; have h_15 := h_14.below b15; have yy_15 := yy_14.below b15; have dd_15 := dd_14.below b15; have on_15 := on.below b15; have bx_15 := bx_14.below b15 bx_14.lt; have bz_15 := bz_14.below b15 bz_14.lt; have be_15 := be_14.below b15 be_14.lt; have F15 := below_then F14 (Nat.le_refl _) b15)
      | (go_at_call 14; (with_reducible refine (rof_q (-1) _ (by omega) (by omega)).mono ?_); rintro e w16 ⟨s16, A16, n16, c16, B16, m16, d16, rfl, ng, b16⟩; have h_16 := h_15.below b16; have yy_16 := yy_15.below b16; have dd_16 := dd_15.below b16; have on_16 := on_15.below b16; have bx_16 := bx_15.below b16 bx_15.lt; have bz_16 := bz_15.below b16 bz_15.lt; have be_16 := be_15.below b16 be_15.lt; have F16 := below_then F15 (Nat.le_refl _) b16)
      | (go_at_call 15; (with_reducible refine (rcmp_q _ _ _ _ _ _ _ _ _ _ _ _ _ _ D ((-1 : Int) : Rat) r2 _ HR2.out dd_16.iq ng.iq (Nat.le_trans (dd_16.ln c1_) k11) (Nat.le_trans (dd_16.ld c2_) k11) (Nat.le_trans (ng.ln v1_) k01) (Nat.le_trans (ng.ld v2_) k01)).mono ?_); rintro e w17 ⟨rfl, b17⟩; have h_17 := h_16.below b17; have yy_17 := yy_16.below b17; have dd_17 := dd_16.below b17; have on_17 := on_16.below b17; have ng_17 := ng.below b17; have bx_17 := bx_16.below b17 bx_16.lt; have bz_17 := bz_16.below b17 bz_16.lt; have be_17 := be_16.below b17 be_16.lt; have F17 := below_then F16 (Nat.le_refl _) b17)
      | fail)
  have bx_u17 := bx_17.cell0
  have bx_v17 := bx_17.cell1
  have bx_w17 := bx_17.cell2
  have bz_u17 := bz_17.cell0
  have bz_v17 := bz_17.cell1
  have bz_w17 := bz_17.cell2
  have be_u17 := be_17.cell0
  have be_v17 := be_17.cell1
  have be_w17 := be_17.cell2
  all_goals (go_wp2; go_ret; exact ⟨rfl, F17⟩)
end Go.Proofs.YtjpchbcenbjibaaGreatDoor
