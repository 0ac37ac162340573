/-
  frac, few and awake of the statements of rational.
-/
import Derived.Test.YtabgniijlofapaaP3
namespace Go.Proofs.Ytabgniijlofapaa
open Go.RowKit
set_option linter.unusedVariables false
set_option linter.unusedSimpArgs false

theorem qs1 {q : Rat} (h : decide (q.num.natAbs < 4294967296 ∧ q.den < 4294967296) = true) : Qs 1 q := by
  have := of_decide_eq_true h
  exact ⟨by simpa [pw] using this.1, by simpa [pw] using this.2⟩
theorem gq_alloc {w w' : World} {q : Rat} {e : Ending} (h : GQ w q e w') (o : Obj) : GQ w q e (w'.alloc o) := by
  obtain ⟨s, A, n, c, B, m, d, he, hc, hb⟩ := h
  exact ⟨s, A, n, c, B, m, d, he, hc.alloc o, hb.alloc hb.size o⟩
theorem lfrac_q (a b : Int) (q : Rat) (w : World) (hq : (a : Rat) / (b : Rat) = q) (h0 : b ≠ 0) (h1 : -9223372036854775808 ≤ a ∧ a ≤ 9223372036854775807) (h2 : -9223372036854775808 ≤ b ∧ b ≤ 9223372036854775807) : Calls Try.prog 50 #[.int .i64 a, .int .i64 b] w (GQ w q) := by
  have H1 := hide h1
  have H2 := hide h2
  have HQ := hide hq
  have H0 := hide h0
  clear h1 h2 hq h0
  have br_1 : Sq ((w).alloc EQ0) (w.heap.size) (.bool false) (.slice none 0 0) (.slice none 0 0) := by have h_ := Sq.new (w) (.bool false) (.slice none 0 0) (.slice none 0 0); exact h_
  have F1 := (Below.refl w.heap.size w).alloc (Nat.le_refl _) EQ0
  go_enter Try.func50, Try.ntmps50
  go_wp2_with fail
  refine (rfrac_q _ _ q _ HQ.out H0.out H1.out.1 H1.out.2 H2.out.1 H2.out.2).mono ?_
  rintro e w2 ⟨s2, A2, n2, c2, B2, m2, d2, rfl, x, b2⟩
  have br_2 := br_1.below b2 br_1.lt
  have F2 := below_then F1 (Nat.le_refl _) b2
  have br_u2 := br_2.cell0
  have br_v2 := br_2.cell1
  have br_w2 := br_2.cell2
  have br_f02 := br_2.frozen 0
  have br_f12 := br_2.frozen 1
  have br_f22 := br_2.frozen 2
  have lt_ := br_2.lt
  have ne_ := Nat.ne_of_lt br_2.lt
  go_wp2_with fail
  have z_ := (br_2.stor (u0 := .bool s2) (u1 := .slice A2 n2 c2) (u2 := .slice B2 m2 d2)).alloc (EQ s2 A2 n2 c2 B2 m2 d2)
  refine bodyPost_ret (v := .agg #[.bool s2, .slice A2 n2 c2, .slice B2 m2 d2]) (by simp [results, Try.results50, go_sem, z_.cell0, z_.cell1, z_.cell2, (br_2.set0 (.bool s2)).cell0, ((br_2.set0 (.bool s2)).set1 (.slice A2 n2 c2)).cell1, (((br_2.set0 (.bool s2)).set1 (.slice A2 n2 c2)).set2 (.slice B2 m2 d2)).cell2]) rfl (gq_alloc (gq_end F2 (by omega) br_2 x) _)
theorem few_q (s : Bool) (A : Option Addr) (n c : Nat) (B : Option Addr) (m d : Nat) (w : World) (b : Bool) (hb : decide (n ≤ 3 ∧ m ≤ 3) = b) : Calls Try.prog 13 #[.agg #[.bool s, .slice A n c, .slice B m d]] w (Asks w (.bool b)) := by
  have hB : Below w.heap.size w (w.alloc (EQ s A n c B m d)) := (Below.refl _ _).alloc (Nat.le_refl _) _
  by_cases h1 : n ≤ 3
  · have d1 : decide ((n : Int) ≤ 3) = true := by simp; omega
    by_cases h2 : m ≤ 3
    · have d2 : decide ((m : Int) ≤ 3) = true := by simp; omega
      obtain rfl : b = true := by rw [← hb]; simp [h1, h2]
      clear hb h1 h2
      go_enter Try.func13, Try.ntmps13
      go_wp2
      go_ret
      exact ⟨rfl, hB⟩
    · have d2 : decide ((m : Int) ≤ 3) = false := by simp; omega
      obtain rfl : b = false := by rw [← hb]; simp [h1, h2]
      clear hb h1 h2
      go_enter Try.func13, Try.ntmps13
      go_wp2
      go_ret
      exact ⟨rfl, hB⟩
  · have d1 : decide ((n : Int) ≤ 3) = false := by simp; omega
    obtain rfl : b = false := by rw [← hb]; simp [h1]
    clear hb h1
    go_enter Try.func13, Try.ntmps13
    go_wp2
    go_ret
    exact ⟨rfl, hB⟩
set_option maxHeartbeats 4000000 in
set_option maxRecDepth 20000 in
theorem awake_q (w : World) : Calls Try.prog 12 #[] w fun e w' => e = .returned (.bool true) ∧ Below w.heap.size w w' := by
  have S1 : smp (mkRat 3 10) (mkRat 2 5) = mkRat 1 3 := by decide +kernel
  have S2 : smp (mkRat 13 5) (mkRat 31 10) = mkRat 3 1 := by decide +kernel
  have HS1 := hide S1
  have HS2 := hide S2
  have k1 : 1 ≤ 1000 := by omega
  have k2 : 1 ≤ 1 := by omega
  have k4 : 1 ≤ 4000 := by omega
  have k16 : 1 ≤ 16384 := by omega
  have HL1 := hide (show mkRat 3 10 ≤ mkRat 2 5 by decide +kernel)
  have HL2 := hide (show mkRat 13 5 ≤ mkRat 31 10 by decide +kernel)
  have HA := hide (show mkRat 1 2 + mkRat 1 3 = mkRat 5 6 by decide +kernel)
  have HF := hide (show qfl (mkRat (-7) 2) = -4 by decide +kernel)
  have HC := hide (show sz (mkRat 1 3 - mkRat 1 2).num = -1 by decide +kernel)
  have hz4 : (-4 : Int).natAbs < pw 60 := Nat.lt_of_lt_of_le (by decide : 4 < pw 1) (pw_mono (by omega))
  go_enter Try.func12, Try.ntmps12
  go_wp2_with fail
  refine (lfrac_q 3 10 (mkRat 3 10) _ (by decide +kernel) (by omega) (by omega) (by omega)).mono ?_
  rintro e w1 ⟨s1, A1, n1, c1, B1, m1, d1, rfl, f1, b1⟩
  have F1 := b1
  have lf1 := f1.tiny (qs1 (q := (mkRat 3 10)) (by decide +kernel))
  go_wp2_with fail
  refine (lfrac_q 2 5 (mkRat 2 5) _ (by decide +kernel) (by omega) (by omega) (by omega)).mono ?_
  rintro e w2 ⟨s2, A2, n2, c2, B2, m2, d2, rfl, f2, b2⟩
  have f1_2 := f1.below b2
  have F2 := below_then F1 (Nat.le_refl _) b2
  have lf2 := f2.tiny (qs1 (q := (mkRat 2 5)) (by decide +kernel))
  go_wp2_with fail
  refine (simplest_q _ _ _ _ _ _ _ _ _ _ _ _ _ _ _ _ _ 1 k1 k2 f1_2.iq f2.iq lf1.1 lf1.2 lf2.1 lf2.2 HL1.out).mono ?_
  rintro e w3 ⟨s3, A3, n3, c3, B3, m3, d3, rfl, s, b3⟩
  have f1_3 := f1_2.below b3
  have f2_3 := f2.below b3
  have F3 := below_then F2 (Nat.le_refl _) b3
  have s_4 := s.alloc (EQ s3 A3 n3 c3 B3 m3 d3)
  have bs_4 : Sq ((w3).alloc (EQ s3 A3 n3 c3 B3 m3 d3)) (w3.heap.size) (.bool s3) (.slice A3 n3 c3) (.slice B3 m3 d3) := by have h_ := Sq.new (w3) (.bool s3) (.slice A3 n3 c3) (.slice B3 m3 d3); exact h_
  have F4 := F3.alloc F3.size (EQ s3 A3 n3 c3 B3 m3 d3)
  have s_ok := s_4.to HS1.out
  have bs_u4 := bs_4.cell0
  have bs_v4 := bs_4.cell1
  have bs_w4 := bs_4.cell2
  go_wp2_with fail
  refine (lfrac_q 13 5 (mkRat 13 5) _ (by decide +kernel) (by omega) (by omega) (by omega)).mono ?_
  rintro e w5 ⟨s5, A5, n5, c5, B5, m5, d5, rfl, f3, b5⟩
  have s_5 := s_ok.below b5
  have bs_5 := bs_4.below b5 bs_4.lt
  have F5 := below_then F4 (Nat.le_refl _) b5
  have bs_u5 := bs_5.cell0
  have bs_v5 := bs_5.cell1
  have bs_w5 := bs_5.cell2
  have lf3 := f3.tiny (qs1 (q := (mkRat 13 5)) (by decide +kernel))
  go_wp2_with fail
  refine (lfrac_q 31 10 (mkRat 31 10) _ (by decide +kernel) (by omega) (by omega) (by omega)).mono ?_
  rintro e w6 ⟨s6, A6, n6, c6, B6, m6, d6, rfl, f4, b6⟩
  have s_6 := s_5.below b6
  have f3_6 := f3.below b6
  have bs_6 := bs_5.below b6 bs_5.lt
  have F6 := below_then F5 (Nat.le_refl _) b6
  have bs_u6 := bs_6.cell0
  have bs_v6 := bs_6.cell1
  have bs_w6 := bs_6.cell2
  have lf4 := f4.tiny (qs1 (q := (mkRat 31 10)) (by decide +kernel))
  go_wp2_with fail
  refine (simplest_q _ _ _ _ _ _ _ _ _ _ _ _ _ _ _ _ _ 1 k1 k2 f3_6.iq f4.iq lf3.1 lf3.2 lf4.1 lf4.2 HL2.out).mono ?_
  rintro e w7 ⟨s7, A7, n7, c7, B7, m7, d7, rfl, t, b7⟩
  have s_7 := s_6.below b7
  have f3_7 := f3_6.below b7
  have f4_7 := f4.below b7
  have bs_7 := bs_6.below b7 bs_6.lt
  have F7 := below_then F6 (Nat.le_refl _) b7
  have bs_u7 := bs_7.cell0
  have bs_v7 := bs_7.cell1
  have bs_w7 := bs_7.cell2
  have lt_bt_bs := bs_7.lt
  have s_8 := s_7.alloc (EQ s7 A7 n7 c7 B7 m7 d7)
  have t_8 := t.alloc (EQ s7 A7 n7 c7 B7 m7 d7)
  have bs_8 := bs_7.alloc (EQ s7 A7 n7 c7 B7 m7 d7)
  have bt_8 : Sq ((w7).alloc (EQ s7 A7 n7 c7 B7 m7 d7)) (w7.heap.size) (.bool s7) (.slice A7 n7 c7) (.slice B7 m7 d7) := by have h_ := Sq.new (w7) (.bool s7) (.slice A7 n7 c7) (.slice B7 m7 d7); exact h_
  have F8 := F7.alloc F7.size (EQ s7 A7 n7 c7 B7 m7 d7)
  have t_ok := t_8.to HS2.out
  have bs_u8 := bs_8.cell0
  have bs_v8 := bs_8.cell1
  have bs_w8 := bs_8.cell2
  have bt_u8 := bt_8.cell0
  have bt_v8 := bt_8.cell1
  have bt_w8 := bt_8.cell2
  go_wp2_with fail
  have s_9 := s_8.drew
  have t_9 := t_ok.drew
  have bs_9 := bs_8.drew
  have bt_9 := bt_8.drew
  have F9 := F8.drew
  go_region_held3 (fun w' => w'.cell? ⟨w3.heap.size, 0, none⟩ = some (.bool s3) ∧ w'.cell? ⟨w3.heap.size, 1, none⟩ = some (.slice A3 n3 c3) ∧ w'.cell? ⟨w3.heap.size, 2, none⟩ = some (.slice B3 m3 d3) ∧ w'.cell? ⟨w7.heap.size, 0, none⟩ = some (.bool s7) ∧ w'.cell? ⟨w7.heap.size, 1, none⟩ = some (.slice A7 n7 c7) ∧ w'.cell? ⟨w7.heap.size, 2, none⟩ = some (.slice B7 m7 d7))
    (first
      | with_reducible exact ⟨bs_25.cell0, bs_25.cell1, bs_25.cell2, bt_25.cell0, bt_25.cell1, bt_25.cell2⟩
      | with_reducible exact ⟨bs_24.cell0, bs_24.cell1, bs_24.cell2, bt_24.cell0, bt_24.cell1, bt_24.cell2⟩
      | with_reducible exact ⟨bs_23.cell0, bs_23.cell1, bs_23.cell2, bt_23.cell0, bt_23.cell1, bt_23.cell2⟩
      | with_reducible exact ⟨bs_22.cell0, bs_22.cell1, bs_22.cell2, bt_22.cell0, bt_22.cell1, bt_22.cell2⟩
      | with_reducible exact ⟨bs_21.cell0, bs_21.cell1, bs_21.cell2, bt_21.cell0, bt_21.cell1, bt_21.cell2⟩
      | with_reducible exact ⟨bs_20.cell0, bs_20.cell1, bs_20.cell2, bt_20.cell0, bt_20.cell1, bt_20.cell2⟩
      | with_reducible exact ⟨bs_19.cell0, bs_19.cell1, bs_19.cell2, bt_19.cell0, bt_19.cell1, bt_19.cell2⟩
      | with_reducible exact ⟨bs_18.cell0, bs_18.cell1, bs_18.cell2, bt_18.cell0, bt_18.cell1, bt_18.cell2⟩
      | with_reducible exact ⟨bs_17.cell0, bs_17.cell1, bs_17.cell2, bt_17.cell0, bt_17.cell1, bt_17.cell2⟩
      | with_reducible exact ⟨bs_16.cell0, bs_16.cell1, bs_16.cell2, bt_16.cell0, bt_16.cell1, bt_16.cell2⟩
      | with_reducible exact ⟨bs_15.cell0, bs_15.cell1, bs_15.cell2, bt_15.cell0, bt_15.cell1, bt_15.cell2⟩
      | with_reducible exact ⟨bs_14.cell0, bs_14.cell1, bs_14.cell2, bt_14.cell0, bt_14.cell1, bt_14.cell2⟩
      | with_reducible exact ⟨bs_13.cell0, bs_13.cell1, bs_13.cell2, bt_13.cell0, bt_13.cell1, bt_13.cell2⟩
      | with_reducible exact ⟨bs_12.cell0, bs_12.cell1, bs_12.cell2, bt_12.cell0, bt_12.cell1, bt_12.cell2⟩
      | with_reducible exact ⟨bs_11.cell0, bs_11.cell1, bs_11.cell2, bt_11.cell0, bt_11.cell1, bt_11.cell2⟩
      | with_reducible exact ⟨bs_10.cell0, bs_10.cell1, bs_10.cell2, bt_10.cell0, bt_10.cell1, bt_10.cell2⟩
      | with_reducible exact ⟨bs_9.cell0, bs_9.cell1, bs_9.cell2, bt_9.cell0, bt_9.cell1, bt_9.cell2⟩
      | fail)
    (first
      | (go_at_call 50; (with_reducible refine (lfrac_q 1 2 (mkRat 1 2) _ (by decide +kernel) (by omega) (by omega) (by omega)).mono ?_); rintro e w10 ⟨s10, A10, n10, c10, B10, m10, d10, rfl, a1, b10⟩; have s_10 := s_9.below b10; have t_10 := t_9.below b10; have bs_10 := bs_9.below b10 bs_9.lt; have bt_10 := bt_9.below b10 bt_9.lt; have F10 := below_then F9 (Nat.le_refl _) b10; have la1 := a1.tiny (qs1 (q := (mkRat 1 2)) (by decide +kernel)); have qa1 := And.intro (Nat.le_trans la1.1 k4) (Nat.le_trans la1.2 k4))
      | (go_at_call 50; (with_reducible refine (lfrac_q 1 3 (mkRat 1 3) _ (by decide +kernel) (by omega) (by omega) (by omega)).mono ?_); rintro e w11 ⟨s11, A11, n11, c11, B11, m11, d11, rfl, a2, b11⟩; have s_11 := s_10.below b11; have t_11 := t_10.below b11; have a1_11 := a1.below b11; have bs_11 := bs_10.below b11 bs_10.lt; have bt_11 := bt_10.below b11 bt_10.lt; have F11 := below_then F10 (Nat.le_refl _) b11; have la2 := a2.tiny (qs1 (q := (mkRat 1 3)) (by decide +kernel)); have qa2 := And.intro (Nat.le_trans la2.1 k4) (Nat.le_trans la2.2 k4))
      | (go_at_call 33; (with_reducible refine (add_q _ _ _ _ _ _ _ _ _ _ _ _ _ _ _ _ _ _ HA.out a1_11.iq a2.iq qa1.1 qa1.2 qa2.1 qa2.2).mono ?_); rintro e w12 ⟨s12, A12, n12, c12, B12, m12, d12, rfl, a3, b12⟩; have s_12 := s_11.below b12; have t_12 := t_11.below b12; have a1_12 := a1_11.below b12; have a2_12 := a2.below b12; have bs_12 := bs_11.below b12 bs_11.lt; have bt_12 := bt_11.below b12 bt_11.lt; have F12 := below_then F11 (Nat.le_refl _) b12; have la3 := a3.tiny (qs1 (q := (mkRat 5 6)) (by decide +kernel)); have ma3 := And.intro (Nat.le_trans la3.1 k16) (Nat.le_trans la3.2 k16))
      | (go_at_call 50; (with_reducible refine (lfrac_q 5 6 (mkRat 5 6) _ (by decide +kernel) (by omega) (by omega) (by omega)).mono ?_); rintro e w13 ⟨s13, A13, n13, c13, B13, m13, d13, rfl, a4, b13⟩; have s_13 := s_12.below b13; have t_13 := t_12.below b13; have a1_13 := a1_12.below b13; have a2_13 := a2_12.below b13; have a3_13 := a3.below b13; have bs_13 := bs_12.below b13 bs_12.lt; have bt_13 := bt_12.below b13 bt_12.lt; have F13 := below_then F12 (Nat.le_refl _) b13; have la4 := a4.tiny (qs1 (q := (mkRat 5 6)) (by decide +kernel)); have qa4 := And.intro (Nat.le_trans la4.1 k4) (Nat.le_trans la4.2 k4))
      | (go_at_call 15; (with_reducible refine (same_q _ _ _ _ _ _ _ _ _ _ _ _ _ _ _ _ a3_13 a4 ma3.1 ma3.2).mono ?_); rintro e w14 ⟨rfl, b14⟩; have s_14 := s_13.below b14; have t_14 := t_13.below b14; have a1_14 := a1_13.below b14; have a2_14 := a2_13.below b14; have a3_14 := a3_13.below b14; have a4_14 := a4.below b14; have bs_14 := bs_13.below b14 bs_13.lt; have bt_14 := bt_13.below b14 bt_13.lt; have F14 := below_then F13 (Nat.le_refl _) b14)
      | (go_at_call 50; (with_reducible refine (lfrac_q 1 3 (mkRat 1 3) _ (by decide +kernel) (by omega) (by omega) (by omega)).mono ?_); rintro e w15 ⟨s15, A15, n15, c15, B15, m15, d15, rfl, a5, b15⟩; have s_15 := s_14.below b15; have t_15 := t_14.below b15; have a1_15 := a1_14.below b15; have a2_15 := a2_14.below b15; have a3_15 := a3_14.below b15; have a4_15 := a4_14.below b15; have bs_15 := bs_14.below b15 bs_14.lt; have bt_15 := bt_14.below b15 bt_14.lt; have F15 := below_then F14 (Nat.le_refl _) b15; have la5 := a5.tiny (qs1 (q := (mkRat 1 3)) (by decide +kernel)); have qa5 := And.intro (Nat.le_trans la5.1 k4) (Nat.le_trans la5.2 k4))
      | (go_at_call 15; (with_reducible refine (same_q _ _ _ _ _ _ _ _ _ _ _ _ _ _ _ _ s_15 a5 (Nat.le_trans (s_15.tiny (qs1 (q := (mkRat 1 3)) (by decide +kernel))).1 k16) (Nat.le_trans (s_15.tiny (qs1 (q := (mkRat 1 3)) (by decide +kernel))).2 k16)).mono ?_); rintro e w16 ⟨rfl, b16⟩; have s_16 := s_15.below b16; have t_16 := t_15.below b16; have a1_16 := a1_15.below b16; have a2_16 := a2_15.below b16; have a3_16 := a3_15.below b16; have a4_16 := a4_15.below b16; have a5_16 := a5.below b16; have bs_16 := bs_15.below b16 bs_15.lt; have bt_16 := bt_15.below b16 bt_15.lt; have F16 := below_then F15 (Nat.le_refl _) b16)
      | (go_at_call 50; (with_reducible refine (lfrac_q 3 1 (mkRat 3 1) _ (by decide +kernel) (by omega) (by omega) (by omega)).mono ?_); rintro e w17 ⟨s17, A17, n17, c17, B17, m17, d17, rfl, a6, b17⟩; have s_17 := s_16.below b17; have t_17 := t_16.below b17; have a1_17 := a1_16.below b17; have a2_17 := a2_16.below b17; have a3_17 := a3_16.below b17; have a4_17 := a4_16.below b17; have a5_17 := a5_16.below b17; have bs_17 := bs_16.below b17 bs_16.lt; have bt_17 := bt_16.below b17 bt_16.lt; have F17 := below_then F16 (Nat.le_refl _) b17; have la6 := a6.tiny (qs1 (q := (mkRat 3 1)) (by decide +kernel)); have qa6 := And.intro (Nat.le_trans la6.1 k4) (Nat.le_trans la6.2 k4))
      | (go_at_call 15; (with_reducible refine (same_q _ _ _ _ _ _ _ _ _ _ _ _ _ _ _ _ t_17 a6 (Nat.le_trans (t_17.tiny (qs1 (q := (mkRat 3 1)) (by decide +kernel))).1 k16) (Nat.le_trans (t_17.tiny (qs1 (q := (mkRat 3 1)) (by decide +kernel))).2 k16)).mono ?_); rintro e w18 ⟨rfl, b18⟩; have s_18 := s_17.below b18; have t_18 := t_17.below b18; have a1_18 := a1_17.below b18; have a2_18 := a2_17.below b18; have a3_18 := a3_17.below b18; have a4_18 := a4_17.below b18; have a5_18 := a5_17.below b18; have a6_18 := a6.below b18; have bs_18 := bs_17.below b18 bs_17.lt; have bt_18 := bt_17.below b18 bt_17.lt; have F18 := below_then F17 (Nat.le_refl _) b18)
      | (go_at_call 50; (with_reducible refine (lfrac_q (-7) 2 (mkRat (-7) 2) _ (by decide +kernel) (by omega) (by omega) (by omega)).mono ?_); rintro e w19 ⟨s19, A19, n19, c19, B19, m19, d19, rfl, a7, b19⟩; have s_19 := s_18.below b19; have t_19 := t_18.below b19; have a1_19 := a1_18.below b19; have a2_19 := a2_18.below b19; have a3_19 := a3_18.below b19; have a4_19 := a4_18.below b19; have a5_19 := a5_18.below b19; have a6_19 := a6_18.below b19; have bs_19 := bs_18.below b19 bs_18.lt; have bt_19 := bt_18.below b19 bt_18.lt; have F19 := below_then F18 (Nat.le_refl _) b19; have la7 := a7.tiny (qs1 (q := (mkRat (-7) 2)) (by decide +kernel)); have qa7 := And.intro (Nat.le_trans la7.1 k4) (Nat.le_trans la7.2 k4))
      | (go_at_call 45; (with_reducible refine (floor_q _ _ _ _ _ _ _ _ (-4) _ HF.out a7.iq qa7.1 qa7.2).mono ?_); rintro e w20 ⟨s20, A20, n20, c20, rfl, z1, b20⟩; have s_20 := s_19.below b20; have t_20 := t_19.below b20; have a1_20 := a1_19.below b20; have a2_20 := a2_19.below b20; have a3_20 := a3_19.below b20; have a4_20 := a4_19.below b20; have a5_20 := a5_19.below b20; have a6_20 := a6_19.below b20; have a7_20 := a7.below b20; have bs_20 := bs_19.below b20 bs_19.lt; have bt_20 := bt_19.below b20 bt_19.lt; have F20 := below_then F19 (Nat.le_refl _) b20; have lz1 := Nat.le_trans (z1.len hz4) (show 60 ≤ 1048576 by omega))
      | (go_at_call 54; (with_reducible refine (rofint_int (-4) _ (by omega) (by omega)).mono ?_); rintro e w21 ⟨s21, A21, n21, c21, rfl, z2, b21⟩; have s_21 := s_20.below b21; have t_21 := t_20.below b21; have a1_21 := a1_20.below b21; have a2_21 := a2_20.below b21; have a3_21 := a3_20.below b21; have a4_21 := a4_20.below b21; have a5_21 := a5_20.below b21; have a6_21 := a6_20.below b21; have a7_21 := a7_20.below b21; have z1_21 := z1.below b21; have bs_21 := bs_20.below b21 bs_20.lt; have bt_21 := bt_20.below b21 bt_20.lt; have F21 := below_then F20 (Nat.le_refl _) b21)
      | (go_at_call 19; (with_reducible refine (same_int _ _ _ _ _ _ _ _ _ _ z1_21 z2 lz1).mono ?_); rintro e w22 ⟨rfl, b22⟩; have s_22 := s_21.below b22; have t_22 := t_21.below b22; have a1_22 := a1_21.below b22; have a2_22 := a2_21.below b22; have a3_22 := a3_21.below b22; have a4_22 := a4_21.below b22; have a5_22 := a5_21.below b22; have a6_22 := a6_21.below b22; have a7_22 := a7_21.below b22; have z1_22 := z1_21.below b22; have z2_22 := z2.below b22; have bs_22 := bs_21.below b22 bs_21.lt; have bt_22 := bt_21.below b22 bt_21.lt; have F22 := below_then F21 (Nat.le_refl _) b22)
      | (go_at_call 50; (with_reducible refine (lfrac_q 1 3 (mkRat 1 3) _ (by decide +kernel) (by omega) (by omega) (by omega)).mono ?_); rintro e w23 ⟨s23, A23, n23, c23, B23, m23, d23, rfl, a8, b23⟩; have s_23 := s_22.below b23; have t_23 := t_22.below b23; have a1_23 := a1_22.below b23; have a2_23 := a2_22.below b23; have a3_23 := a3_22.below b23; have a4_23 := a4_22.below b23; have a5_23 := a5_22.below b23; have a6_23 := a6_22.below b23; have a7_23 := a7_22.below b23; have z1_23 := z1_22.below b23; have z2_23 := z2_22.below b23; have bs_23 := bs_22.below b23 bs_22.lt; have bt_23 := bt_22.below b23 bt_22.lt; have F23 := below_then F22 (Nat.le_refl _) b23; have la8 := a8.tiny (qs1 (q := (mkRat 1 3)) (by decide +kernel)); have qa8 := And.intro (Nat.le_trans la8.1 k4) (Nat.le_trans la8.2 k4))
      | (go_at_call 50; (with_reducible refine (lfrac_q 1 2 (mkRat 1 2) _ (by decide +kernel) (by omega) (by omega) (by omega)).mono ?_); rintro e w24 ⟨s24, A24, n24, c24, B24, m24, d24, rfl, a9, b24⟩; have s_24 := s_23.below b24; have t_24 := t_23.below b24; have a1_24 := a1_23.below b24; have a2_24 := a2_23.below b24; have a3_24 := a3_23.below b24; have a4_24 := a4_23.below b24; have a5_24 := a5_23.below b24; have a6_24 := a6_23.below b24; have a7_24 := a7_23.below b24; have z1_24 := z1_23.below b24; have z2_24 := z2_23.below b24; have a8_24 := a8.below b24; have bs_24 := bs_23.below b24 bs_23.lt; have bt_24 := bt_23.below b24 bt_23.lt; have F24 := below_then F23 (Nat.le_refl _) b24; have la9 := a9.tiny (qs1 (q := (mkRat 1 2)) (by decide +kernel)); have qa9 := And.intro (Nat.le_trans la9.1 k4) (Nat.le_trans la9.2 k4))
      | (go_at_call 39; (with_reducible refine (cmp_q _ _ _ _ _ _ _ _ _ _ _ _ _ _ _ _ _ _ HC.out a8_24.iq a9.iq qa8.1 qa8.2 qa9.1 qa9.2).mono ?_); rintro e w25 ⟨rfl, b25⟩; have s_25 := s_24.below b25; have t_25 := t_24.below b25; have a1_25 := a1_24.below b25; have a2_25 := a2_24.below b25; have a3_25 := a3_24.below b25; have a4_25 := a4_24.below b25; have a5_25 := a5_24.below b25; have a6_25 := a6_24.below b25; have a7_25 := a7_24.below b25; have z1_25 := z1_24.below b25; have z2_25 := z2_24.below b25; have a8_25 := a8_24.below b25; have a9_25 := a9.below b25; have bs_25 := bs_24.below b25 bs_24.lt; have bt_25 := bt_24.below b25 bt_24.lt; have F25 := below_then F24 (Nat.le_refl _) b25)
      | fail)
  have bs_u25 := bs_25.cell0
  have bs_v25 := bs_25.cell1
  have bs_w25 := bs_25.cell2
  have bt_u25 := bt_25.cell0
  have bt_v25 := bt_25.cell1
  have bt_w25 := bt_25.cell2
  go_wp2
  go_ret
  exact ⟨rfl, F25⟩
end Go.Proofs.Ytabgniijlofapaa
