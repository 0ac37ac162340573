/-
  Down and Up.
-/
import Derived.Test.YtnddhohjfjlaiaaGreatDoorEl
namespace Go.Proofs.YtnddhohjfjlaiaaGreatDoor
open Go.RowKit
set_option linter.unusedVariables false
set_option linter.unusedSimpArgs false

theorem rnd_bad (s : Bool) (A : Option Addr) (n c : Nat) (B : Option Addr) (m d : Nat) (P : Int) (away : Bool) (w : World) (hP : P < 1 ∨ 4096 < P) : Calls Tryz.prog 31 #[.agg #[.bool s, .slice A n c, .slice B m d], .int .i64 P, .bool away] w (GDE w 0 1) := by
  rcases hP with hP | hP
  · have d1 : decide (P < 1) = true := by simpa using hP
    clear hP
    have bx_1 : Sq ((w).alloc (EQ s A n c B m d)) (w.heap.size) (.bool s) (.slice A n c) (.slice B m d) := by have h_ := Sq.new (w) (.bool s) (.slice A n c) (.slice B m d); exact h_
    have F1 := (Below.refl w.heap.size w).alloc (Nat.le_refl _) (EQ s A n c B m d)
    have bx_2 := bx_1.alloc EY0
    have br_2 : Sy (((w).alloc (EQ s A n c B m d)).alloc EY0) (w.heap.size + 1) (.bool false) (.slice none 0 0) (.int .i64 0) := by have h_ := Sy.new ((w).alloc (EQ s A n c B m d)) (.bool false) (.slice none 0 0) (.int .i64 0); simp only [World.size_alloc] at h_; exact h_
    have F2 := F1.alloc F1.size EY0
    go_enter Tryz.func31, Tryz.ntmps31
    have bx_u2 := bx_2.cell0
    have bx_v2 := bx_2.cell1
    have bx_w2 := bx_2.cell2
    have br_u2 := br_2.cell0
    have br_v2 := br_2.cell1
    have br_w2 := br_2.cell2
    go_wp2_with fail
    refine bodyPost_ret (v := .tuple #[.agg #[.bool false, .slice none 0 0, .int .i64 0], .int .i64 1]) (by simp [results, Tryz.results31, go_sem]) rfl ⟨_, _, _, _, _, rfl, cy_zero _, F2⟩
  · have d1 : decide (P < 1) = false := by simp; omega
    have d2 : decide (4096 < P) = true := by simpa using hP
    clear hP
    have bx_1 : Sq ((w).alloc (EQ s A n c B m d)) (w.heap.size) (.bool s) (.slice A n c) (.slice B m d) := by have h_ := Sq.new (w) (.bool s) (.slice A n c) (.slice B m d); exact h_
    have F1 := (Below.refl w.heap.size w).alloc (Nat.le_refl _) (EQ s A n c B m d)
    have bx_2 := bx_1.alloc EY0
    have br_2 : Sy (((w).alloc (EQ s A n c B m d)).alloc EY0) (w.heap.size + 1) (.bool false) (.slice none 0 0) (.int .i64 0) := by have h_ := Sy.new ((w).alloc (EQ s A n c B m d)) (.bool false) (.slice none 0 0) (.int .i64 0); simp only [World.size_alloc] at h_; exact h_
    have F2 := F1.alloc F1.size EY0
    go_enter Tryz.func31, Tryz.ntmps31
    have bx_u2 := bx_2.cell0
    have bx_v2 := bx_2.cell1
    have bx_w2 := bx_2.cell2
    have br_u2 := br_2.cell0
    have br_v2 := br_2.cell1
    have br_w2 := br_2.cell2
    go_wp2_with fail
    refine bodyPost_ret (v := .tuple #[.agg #[.bool false, .slice none 0 0, .int .i64 0], .int .i64 1]) (by simp [results, Tryz.results31, go_sem]) rfl ⟨_, _, _, _, _, rfl, cy_zero _, F2⟩
theorem mk_zero {s : Bool} {N D : Nat} {q : Rat} (hD : D ≠ 0) (hq : mkRat (if s = true then -(N : Int) else (N : Int)) D = q) : q = 0 ↔ N = 0 := by
  rw [← hq, Rat.mkRat_eq_zero hD]
  cases s <;> simp
theorem rnd_zero (s : Bool) (A : Option Addr) (n c : Nat) (B : Option Addr) (m d : Nat) (k : Nat) (away : Bool) (w : World) (h : Iq w s A n c B m d 0) (hn : n ≤ 3) (hm : m ≤ 3) (hk : 1 ≤ k ∧ k ≤ 200) :
    Calls Tryz.prog 31 #[.agg #[.bool s, .slice A n c, .slice B m d], .int .i64 (k : Int), .bool away] w (GDE w 0 0) := by
  obtain ⟨xs, ys, hx, hy, hq⟩ := h
  obtain ⟨N, hN⟩ : ∃ N, val xs = N := ⟨_, rfl⟩
  obtain ⟨Y, hY⟩ : ∃ Y, val ys = Y := ⟨_, rfl⟩
  obtain ⟨D, hD⟩ : ∃ D, (if Y = 0 then 1 else Y) = D := ⟨_, rfl⟩
  have hD0 : D ≠ 0 := by rw [← hD]; split <;> omega
  have hq2 : mkRat (if s = true then -(N : Int) else (N : Int)) D = 0 := by
    rw [← hq, ← hD, ← hY, ← hN]
    rfl
  have h : Nz w A n c 3 N := ⟨hn, xs, hx, hN⟩
  have h2 : Nz w B m d 3 Y := ⟨hm, ys, hy, hY⟩
  have HD := hide hD
  have d1 : decide ((k : Int) < 1) = false := by simp; omega
  have d2 : decide (4096 < (k : Int)) = false := by simp; omega
  have k1 : 1 ≤ 3 ∧ 3 ≤ 1048576 := by omega
  have k3 : 3 ≤ 1048576 := by omega
  have hN0 := (mk_zero hD0 hq2).1 rfl
  have HN := hide (show bl N = 0 by rw [hN0]; rfl)
  clear hx hy hq hN hY hD hD0 hq2 hN0 hk
  have h_1 := h.alloc (EQ s A n c B m d)
  have h2_1 := h2.alloc (EQ s A n c B m d)
  have bx_1 : Sq ((w).alloc (EQ s A n c B m d)) (w.heap.size) (.bool s) (.slice A n c) (.slice B m d) := by have h_ := Sq.new (w) (.bool s) (.slice A n c) (.slice B m d); exact h_
  have F1 := (Below.refl w.heap.size w).alloc (Nat.le_refl _) (EQ s A n c B m d)
  have h_2 := h_1.alloc EY0
  have h2_2 := h2_1.alloc EY0
  have bx_2 := bx_1.alloc EY0
  have br_2 : Sy (((w).alloc (EQ s A n c B m d)).alloc EY0) (w.heap.size + 1) (.bool false) (.slice none 0 0) (.int .i64 0) := by have h_ := Sy.new ((w).alloc (EQ s A n c B m d)) (.bool false) (.slice none 0 0) (.int .i64 0); simp only [World.size_alloc] at h_; exact h_
  have F2 := F1.alloc F1.size EY0
  go_enter Tryz.func31, Tryz.ntmps31
  have bx_u2 := bx_2.cell0
  have bx_v2 := bx_2.cell1
  have bx_w2 := bx_2.cell2
  have br_u2 := br_2.cell0
  have br_v2 := br_2.cell1
  have br_w2 := br_2.cell2
  go_wp2_with fail
  refine (parts_n _ _ _ _ _ _ _ 3 3 N Y D _ HD.out h_2 h2_2 k1).mono ?_
  rintro e w3 ⟨A3, n3, c3, B3, m3, d3, rfl, num, den, b3⟩
  have h_3 := h_2.below b3
  have h2_3 := h2_2.below b3
  have bx_3 := bx_2.below b3 bx_2.lt
  have br_3 := br_2.below b3 br_2.lt
  have F3 := below_then F2 (Nat.le_refl _) b3
  have bx_u3 := bx_3.cell0
  have bx_v3 := bx_3.cell1
  have bx_w3 := bx_3.cell2
  have br_u3 := br_3.cell0
  have br_v3 := br_3.cell1
  have br_w3 := br_3.cell2
  go_wp2_with fail
  refine (bits_n _ _ _ _ N 0 _ HN.out num k3).mono ?_
  rintro e w' ⟨rfl, rfl⟩
  have br_f03 := br_3.frozen 0
  have br_f13 := br_3.frozen 1
  have br_f23 := br_3.frozen 2
  go_wp2_with fail
  refine bodyPost_ret (v := .tuple #[.agg #[.bool false, .slice none 0 0, .int .i64 0], .int .i64 0]) (by simp [results, Tryz.results31, go_sem, (br_3.set0 (.bool false)).cell0, ((br_3.set0 (.bool false)).set1 (.slice none 0 0)).cell1, (((br_3.set0 (.bool false)).set1 (.slice none 0 0)).set2 (.int .i64 0)).cell2]) rfl (gde_end 0 F3 (by omega) br_3 (cy_zero _))
theorem can_e (s : Bool) (A : Option Addr) (n c k X : Nat) (z e : Int) (q : Rat) (w : World) (hz : z = e) (h : Nz w A n c k X) (hk : k ≤ 1000000) (hq : dvl s X e = q) (he : -1000000000 ≤ e ∧ e ≤ 1000000000) (hr : -1048576 ≤ de q ∧ de q ≤ 1048576) (T : Tb w) :
    Calls Tryz.prog 51 #[.bool s, .slice A n c, .int .i64 z] w (GDB w q true) := by
  subst hz
  exact can_q s A n c k X z q w h hk hq he hr T
set_option maxHeartbeats 2000000 in
theorem rnd_q (s : Bool) (A : Option Addr) (n c : Nat) (B : Option Addr) (m d : Nat) (k : Nat) (up away : Bool) (q y : Rat) (w : World) (h : Iq w s A n c B m d q) (hn : n ≤ 3) (hm : m ≤ 3) (hk : 1 ≤ k ∧ k ≤ 200) (h0 : q ≠ 0) (ha : (!up == s) = away) (hy9 : tq q k up = y) (T : Tb w) :
    Calls Tryz.prog 31 #[.agg #[.bool s, .slice A n c, .slice B m d], .int .i64 (k : Int), .bool away] w (GDE w y 0) := by
  have hs := h.size hn hm (by omega)
  obtain ⟨xs, ys, hx, hy, hq⟩ := h
  obtain ⟨N, hN⟩ : ∃ N, val xs = N := ⟨_, rfl⟩
  obtain ⟨Y, hY⟩ : ∃ Y, val ys = Y := ⟨_, rfl⟩
  obtain ⟨D, hD⟩ : ∃ D, (if Y = 0 then 1 else Y) = D := ⟨_, rfl⟩
  have hD0 : D ≠ 0 := by rw [← hD]; split <;> omega
  have hq2 : mkRat (if s = true then -(N : Int) else (N : Int)) D = q := by
    rw [← hq, ← hD, ← hY, ← hN]
    rfl
  have h : Nz w A n c 3 N := ⟨hn, xs, hx, hN⟩
  have h2 : Nz w B m d 3 Y := ⟨hm, ys, hy, hY⟩
  have HD := hide hD
  have d1 : decide ((k : Int) < 1) = false := by simp; omega
  have d2 : decide (4096 < (k : Int)) = false := by simp; omega
  have k1 : 1 ≤ 3 ∧ 3 ≤ 1048576 := by omega
  have k3 : 3 ≤ 1048576 := by omega
  have hN0 : N ≠ 0 := fun hh => h0 ((mk_zero hD0 hq2).2 hh)
  have hDl : D < pw 3 := by
    have a1 := h2.lt
    rw [← hD]
    split
    · exact Nat.lt_of_lt_of_le (by decide : 1 < pw 1) (pw_mono (by decide))
    · exact a1
  have hts := top_size h.lt hDl
  obtain ⟨t, ht⟩ : ∃ t, top N D = t := ⟨_, rfl⟩
  rw [ht] at hts
  obtain ⟨e, he⟩ : ∃ e, t + 1 - (k : Int) = e := ⟨_, rfl⟩
  obtain ⟨M, hM⟩ : ∃ M, rmag N D e away = M := ⟨_, rfl⟩
  have hv := rnd_val up hk.1 (by omega) (by omega) hq2 (show e = top N D + 1 - k by rw [ht]; omega) ha
  rw [hM, hy9] at hv
  obtain ⟨bN, hbN⟩ : ∃ x, bl N = x := ⟨_, rfl⟩
  have e0 : ((bN : Int) == 0) = false := by have := bl_pos hN0; simp; omega
  have HN := hide (And.intro (show 0 < N by omega) (show 0 < D by omega))
  have HB := hide hbN
  have HT := hide ht
  have HV := hide hv
  have HM := hide hM
  have HR := hide (show -1048576 ≤ de y ∧ de y ≤ 1048576 by rw [← hy9]; have := tq_de up hk.1 hs; omega)
  have HE := hide (show (-300 ≤ e ∧ e ≤ 300) ∧ (-1000000000 ≤ e ∧ e ≤ 1000000000) by omega)
  have HS := hide (show (k : Int) - 1 - t = -e by omega)
  have HW := hide (show IntKind.i64.wrap (-((k : Int) - 1 - t)) = e by rw [IntWalk.i64_in _ (by omega)]; omega)
  have t1 : -97 ≤ t := by omega
  have t2 : t ≤ 96 := by omega
  have kk : k ≤ 200 := by omega
  have kk1 : 1 ≤ k := by omega
  have k14 : 14 ≤ 1000000 := by omega
  clear hs hx hy hq hN hY hD hD0 hq2 hN0 hDl hts ht he hM hv hbN hk h0 ha hy9
  have h_1 := h.alloc (EQ s A n c B m d)
  have h2_1 := h2.alloc (EQ s A n c B m d)
  have T_1 := T.alloc (EQ s A n c B m d)
  have bx_1 : Sq ((w).alloc (EQ s A n c B m d)) (w.heap.size) (.bool s) (.slice A n c) (.slice B m d) := by have h_ := Sq.new (w) (.bool s) (.slice A n c) (.slice B m d); exact h_
  have F1 := (Below.refl w.heap.size w).alloc (Nat.le_refl _) (EQ s A n c B m d)
  have h_2 := h_1.alloc EY0
  have h2_2 := h2_1.alloc EY0
  have T_2 := T_1.alloc EY0
  have bx_2 := bx_1.alloc EY0
  have br_2 : Sy (((w).alloc (EQ s A n c B m d)).alloc EY0) (w.heap.size + 1) (.bool false) (.slice none 0 0) (.int .i64 0) := by have h_ := Sy.new ((w).alloc (EQ s A n c B m d)) (.bool false) (.slice none 0 0) (.int .i64 0); simp only [World.size_alloc] at h_; exact h_
  have F2 := F1.alloc F1.size EY0
  go_enter Tryz.func31, Tryz.ntmps31
  have bx_u2 := bx_2.cell0
  have bx_v2 := bx_2.cell1
  have bx_w2 := bx_2.cell2
  have br_u2 := br_2.cell0
  have br_v2 := br_2.cell1
  have br_w2 := br_2.cell2
  go_wp2_with fail
  refine (parts_n _ _ _ _ _ _ _ 3 3 N Y D _ HD.out h_2 h2_2 k1).mono ?_
  rintro e w3 ⟨A3, n3, c3, B3, m3, d3, rfl, num, den0, b3⟩
  have h_3 := h_2.below b3
  have h2_3 := h2_2.below b3
  have T_3 := T_2.below b3
  have bx_3 := bx_2.below b3 bx_2.lt
  have br_3 := br_2.below b3 br_2.lt
  have F3 := below_then F2 (Nat.le_refl _) b3
  have bx_u3 := bx_3.cell0
  have bx_v3 := bx_3.cell1
  have bx_w3 := bx_3.cell2
  have br_u3 := br_3.cell0
  have br_v3 := br_3.cell1
  have br_w3 := br_3.cell2
  go_wp2_with fail
  refine (bits_n _ _ _ _ N bN _ HB.out num k3).mono ?_
  rintro e w' ⟨rfl, rfl⟩
  go_wp2_with fail
  refine (power_n _ _ _ _ _ _ N D t _ num den0 HN.out.1 HN.out.2 HT.out).mono ?_
  rintro e w4 ⟨rfl, b4⟩
  have T_4 := T_3.below b4
  have num_4 := num.below b4
  have den0_4 := den0.below b4
  have bx_4 := bx_3.below b4 bx_3.lt
  have br_4 := br_3.below b4 br_3.lt
  have F4 := below_then F3 (Nat.le_refl _) b4
  have bx_u4 := bx_4.cell0
  have bx_v4 := bx_4.cell1
  have bx_w4 := bx_4.cell2
  have br_u4 := br_4.cell0
  have br_v4 := br_4.cell1
  have br_w4 := br_4.cell2
  go_wp2_with fail
  go_upto_region 10 with fail
  go_cut [13] (fun sx4 wy => ∃ (wx4 : World) (g : Nat) (A6 : Option Addr) (n6 : Nat) (c6 : Nat) (s7 : Bool) (A7 : Option Addr) (n7 : Nat) (c7 : Nat) (x7 : Int), wx4 = wy ∧ sx4 = .pointer (some ⟨g, 0, none⟩) ∧ Sy wx4 g (.bool s7) (.slice A7 n7 c7) (.int .i64 x7) ∧ w.heap.size ≤ g ∧ w.heap.size < g ∧ w.heap.size + 1 < g ∧ Sq wx4 (w.heap.size) (.bool s) (.slice A n c) (.slice B m d) ∧ Sy wx4 (w.heap.size + 1) (.bool false) (.slice none 0 0) (.int .i64 0) ∧ Tb wx4 ∧ Cy wx4 s7 A7 n7 c7 x7 y ∧ Below w.heap.size w wx4)
  case first =>
    have T_5 := T_4.drew
    have num_5 := num_4.drew
    have den0_5 := den0_4.drew
    have bx_5 := bx_4.drew
    have br_5 := br_4.drew
    have F5 := F4.drew
    have T_z0 := (T_4.alloc EY0).drew
    have num_z0 := (num_4.alloc EY0).drew
    have den0_z0 := (den0_4.alloc EY0).drew
    have bx_z0 := (bx_4.alloc EY0).drew
    have br_z0 := (br_4.alloc EY0).drew
    have lz_bx := bx_4.lt
    have lz_br := br_4.lt
    have gl := F4.size
    have F_z0 := (F4.alloc F4.size EY0).drew
    have zb_0 : Sy ((w4).alloc EY0).drew (w4.heap.size) (.bool false) (.slice none 0 0) (.int .i64 0) := by have h_ := Sy.new (w4) (.bool false) (.slice none 0 0) (.int .i64 0); exact h_.drew
    go_region_held3 (fun w' => w'.cell? ⟨w.heap.size, 0, none⟩ = some (.bool s) ∧ w'.cell? ⟨w.heap.size, 1, none⟩ = some (.slice A n c) ∧ w'.cell? ⟨w.heap.size, 2, none⟩ = some (.slice B m d) ∧ w'.cell? ⟨w.heap.size + 1, 0, none⟩ = some (.bool false) ∧ w'.cell? ⟨w.heap.size + 1, 1, none⟩ = some (.slice none 0 0) ∧ w'.cell? ⟨w.heap.size + 1, 2, none⟩ = some (.int .i64 0))
      (first
        | with_reducible exact ⟨(bx_7.alloc (EY s7 A7 n7 c7 x7)).cell0, (bx_7.alloc (EY s7 A7 n7 c7 x7)).cell1, (bx_7.alloc (EY s7 A7 n7 c7 x7)).cell2, (br_7.alloc (EY s7 A7 n7 c7 x7)).cell0, (br_7.alloc (EY s7 A7 n7 c7 x7)).cell1, (br_7.alloc (EY s7 A7 n7 c7 x7)).cell2⟩
        | with_reducible exact ⟨(bx_7.past (u0 := .bool s7) (u1 := .slice A7 n7 c7) (u2 := .int .i64 x7) (Nat.ne_of_lt lz_bx)).cell0, (bx_7.past (u0 := .bool s7) (u1 := .slice A7 n7 c7) (u2 := .int .i64 x7) (Nat.ne_of_lt lz_bx)).cell1, (bx_7.past (u0 := .bool s7) (u1 := .slice A7 n7 c7) (u2 := .int .i64 x7) (Nat.ne_of_lt lz_bx)).cell2, (br_7.past (u0 := .bool s7) (u1 := .slice A7 n7 c7) (u2 := .int .i64 x7) (Nat.ne_of_lt lz_br)).cell0, (br_7.past (u0 := .bool s7) (u1 := .slice A7 n7 c7) (u2 := .int .i64 x7) (Nat.ne_of_lt lz_br)).cell1, (br_7.past (u0 := .bool s7) (u1 := .slice A7 n7 c7) (u2 := .int .i64 x7) (Nat.ne_of_lt lz_br)).cell2⟩
        | with_reducible exact ⟨(bx_7.alloc EY0).cell0, (bx_7.alloc EY0).cell1, (bx_7.alloc EY0).cell2, (br_7.alloc EY0).cell0, (br_7.alloc EY0).cell1, (br_7.alloc EY0).cell2⟩
        | with_reducible exact ⟨bx_7.cell0, bx_7.cell1, bx_7.cell2, br_7.cell0, br_7.cell1, br_7.cell2⟩
        | with_reducible exact ⟨bx_6.alloc EY0 |>.cell0, bx_6.alloc EY0 |>.cell1, bx_6.alloc EY0 |>.cell2, br_6.alloc EY0 |>.cell0, br_6.alloc EY0 |>.cell1, br_6.alloc EY0 |>.cell2⟩
        | with_reducible exact ⟨(bx_6.alloc EY0).cell0, (bx_6.alloc EY0).cell1, (bx_6.alloc EY0).cell2, (br_6.alloc EY0).cell0, (br_6.alloc EY0).cell1, (br_6.alloc EY0).cell2⟩
        | with_reducible exact ⟨bx_6.cell0, bx_6.cell1, bx_6.cell2, br_6.cell0, br_6.cell1, br_6.cell2⟩
        | with_reducible exact ⟨bx_z0.cell0, bx_z0.cell1, bx_z0.cell2, br_z0.cell0, br_z0.cell1, br_z0.cell2⟩
        | with_reducible exact ⟨bx_5.cell0, bx_5.cell1, bx_5.cell2, br_5.cell0, br_5.cell1, br_5.cell2⟩
        | fail)
      (first
        | (go_at_call 52; (with_reducible refine (quot_n _ _ _ _ _ _ N D _ e M away _ HS.out HE.out.1 num_5 den0_5 HN.out.1 HN.out.2 HM.out).mono ?_); rintro e w6 ⟨A6, n6, c6, rfl, mg, b6⟩; have T_6 := T_5.below b6; have num_6 := num_5.below b6; have den0_6 := den0_5.below b6; have bx_6 := bx_5.below b6 bx_5.lt; have br_6 := br_5.below b6 br_5.lt; have F6 := below_then F5 (Nat.le_refl _) b6)
        | (go_at_call 52; (with_reducible refine (quot_n _ _ _ _ _ _ N D _ e M away _ HS.out HE.out.1 num_z0 den0_z0 HN.out.1 HN.out.2 HM.out).mono ?_); rintro e w6 ⟨A6, n6, c6, rfl, mg, b6⟩; have T_6 := T_z0.below b6; have num_6 := num_z0.below b6; have den0_6 := den0_z0.below b6; have bx_6 := bx_z0.below b6 bx_z0.lt; have br_6 := br_z0.below b6 br_z0.lt; have F6 := below_then F_z0 (Nat.le_refl _) b6; have zb_6 := zb_0.below b6 zb_0.lt)
        | (go_at_call 51; (with_reducible refine (can_e s _ _ _ 14 M _ e y _ (by first | exact HW.out | (have := HS.out; go_num)) mg.nz k14 HV.out HE.out.2 HR.out T_6).mono ?_); rintro e w7 ⟨s7, A7, n7, c7, x7, rfl, yy, b7⟩; have T_7 := T_6.below b7; have num_7 := num_6.below b7; have den0_7 := den0_6.below b7; have mg_7 := mg.below b7; have bx_7 := bx_6.below b7 bx_6.lt; have br_7 := br_6.below b7 br_6.lt; have F7 := below_then F6 (Nat.le_refl _) b7; have zb_7 := zb_6.below b7 zb_6.lt; have zk7_0 := zb_7.cell0; have zk7_1 := zb_7.cell1; have zk7_2 := zb_7.cell2; have zf7_0 := zb_7.frozen 0; have zf7_1 := zb_7.frozen 1; have zf7_2 := zb_7.frozen 2)
        | (go_at_call 51; (with_reducible refine (can_e s _ _ _ 14 M _ e y _ (by first | exact HW.out | (have := HS.out; go_num)) mg.nz k14 HV.out HE.out.2 HR.out T_6).mono ?_); rintro e w7 ⟨s7, A7, n7, c7, x7, rfl, yy, b7⟩; have T_7 := T_6.below b7; have num_7 := num_6.below b7; have den0_7 := den0_6.below b7; have mg_7 := mg.below b7; have bx_7 := bx_6.below b7 bx_6.lt; have br_7 := br_6.below b7 br_6.lt; have F7 := below_then F6 (Nat.le_refl _) b7)
        | (have T_z7 := T_6.alloc EY0; have num_z7 := num_6.alloc EY0; have den0_z7 := den0_6.alloc EY0; have mg_z7 := mg.alloc EY0; have bx_z7 := bx_6.alloc EY0; have br_z7 := br_6.alloc EY0; have lz_bx := bx_6.lt; have lz_br := br_6.lt; have gl := F6.size; have F_z7 := F6.alloc F6.size EY0; have zb_6 := Sy.new (w6) (.bool false) (.slice none 0 0) (.int .i64 0); go_at_call 51; (with_reducible refine (can_e s _ _ _ 14 M _ e y _ (by first | exact HW.out | (have := HS.out; go_num)) mg_z7.nz k14 HV.out HE.out.2 HR.out T_z7).mono ?_); rintro e w7 ⟨s7, A7, n7, c7, x7, rfl, yy, b7⟩; have T_7 := T_z7.below b7; have num_7 := num_z7.below b7; have den0_7 := den0_z7.below b7; have mg_7 := mg_z7.below b7; have bx_7 := bx_z7.below b7 bx_z7.lt; have br_7 := br_z7.below b7 br_z7.lt; have F7 := below_then F_z7 (Nat.le_refl _) b7; have zb_7 := zb_6.below b7 zb_6.lt; have zk7_0 := zb_7.cell0; have zk7_1 := zb_7.cell1; have zk7_2 := zb_7.cell2; have zf7_0 := zb_7.frozen 0; have zf7_1 := zb_7.frozen 1; have zf7_2 := zb_7.frozen 2)
        | fail)
    all_goals (go_wp2_with fail; go_meet; first | exact ⟨_, _, A6, n6, c6, s7, A7, n7, c7, x7, rfl, rfl, zb_7.stor, gl, lz_bx, lz_br, bx_7.past (Nat.ne_of_lt lz_bx), br_7.past (Nat.ne_of_lt lz_br), T_7.storY zb_7 (.bool s7) (.slice A7 n7 c7) (.int .i64 x7), yy.storY zb_7 (.bool s7) (.slice A7 n7 c7) (.int .i64 x7), below_storQ F7 gl⟩ | exact ⟨_, _, A6, n6, c6, s7, A7, n7, c7, x7, rfl, rfl, Sy.new w7 (.bool s7) (.slice A7 n7 c7) (.int .i64 x7), F7.size, bx_7.lt, br_7.lt, bx_7.alloc (EY s7 A7 n7 c7 x7), br_7.alloc (EY s7 A7 n7 c7 x7), T_7.alloc (EY s7 A7 n7 c7 x7), yy.alloc (EY s7 A7 n7 c7 x7), F7.alloc F7.size _⟩ | fail)
  case rest =>
    obtain ⟨wx4, g8, A6, n6, c6, s7, A7, n7, c7, x7, rfl, rfl, bd_8, gl_8, lt_bd_bx, lt_bd_br, bx_8, br_8, T_8, yy_8, F8⟩ := hcut
    have bx_u8 := bx_8.cell0
    have bx_v8 := bx_8.cell1
    have bx_w8 := bx_8.cell2
    have br_u8 := br_8.cell0
    have br_v8 := br_8.cell1
    have br_w8 := br_8.cell2
    have bd_u8 := bd_8.cell0
    have bd_v8 := bd_8.cell1
    have bd_w8 := bd_8.cell2
    have br_f08 := br_8.frozen 0
    have br_f18 := br_8.frozen 1
    have br_f28 := br_8.frozen 2
    go_wp2_with fail
    refine bodyPost_ret (v := .tuple #[.agg #[.bool s7, .slice A7 n7 c7, .int .i64 x7], .int .i64 0]) (by simp [results, Tryz.results31, go_sem, (br_8.set0 (.bool s7)).cell0, ((br_8.set0 (.bool s7)).set1 (.slice A7 n7 c7)).cell1, (((br_8.set0 (.bool s7)).set1 (.slice A7 n7 c7)).set2 (.int .i64 x7)).cell2]) rfl (gde_end 0 F8 (by omega) br_8 yy_8)
theorem ydown_b (s : Bool) (A : Option Addr) (n c : Nat) (B : Option Addr) (m d : Nat) (P : Int) (q : Rat) (w : World) (h : Iq w s A n c B m d q) (hn : n ≤ 3) (hm : m ≤ 3) (hP : P < 1 ∨ 4096 < P) : Calls Tryz.prog 17 #[.agg #[.bool s, .slice A n c, .slice B m d], .int .i64 P] w (GDE w 0 1) := by
  have HP := hide hP
  clear hP h
  have bx_1 : Sq ((w).alloc (EQ s A n c B m d)) (w.heap.size) (.bool s) (.slice A n c) (.slice B m d) := by have h_ := Sq.new (w) (.bool s) (.slice A n c) (.slice B m d); exact h_
  have F1 := (Below.refl w.heap.size w).alloc (Nat.le_refl _) (EQ s A n c B m d)
  have bx_2 := bx_1.alloc EY0
  have br_2 : Sy (((w).alloc (EQ s A n c B m d)).alloc EY0) (w.heap.size + 1) (.bool false) (.slice none 0 0) (.int .i64 0) := by have h_ := Sy.new ((w).alloc (EQ s A n c B m d)) (.bool false) (.slice none 0 0) (.int .i64 0); simp only [World.size_alloc] at h_; exact h_
  have F2 := F1.alloc F1.size EY0
  go_enter Tryz.func17, Tryz.ntmps17
  have bx_u2 := bx_2.cell0
  have bx_v2 := bx_2.cell1
  have bx_w2 := bx_2.cell2
  have br_u2 := br_2.cell0
  have br_v2 := br_2.cell1
  have br_w2 := br_2.cell2
  go_wp2_with fail
  refine (rnd_bad _ _ _ _ _ _ _ P _ _ HP.out).mono ?_
  rintro e w3 ⟨s3, A3, n3, c3, x3, rfl, y, b3⟩
  have bx_3 := bx_2.below b3 bx_2.lt
  have br_3 := br_2.below b3 br_2.lt
  have F3 := below_then F2 (Nat.le_refl _) b3
  have bx_u3 := bx_3.cell0
  have bx_v3 := bx_3.cell1
  have bx_w3 := bx_3.cell2
  have br_u3 := br_3.cell0
  have br_v3 := br_3.cell1
  have br_w3 := br_3.cell2
  have br_f03 := br_3.frozen 0
  have br_f13 := br_3.frozen 1
  have br_f23 := br_3.frozen 2
  go_wp2_with fail
  refine bodyPost_ret (v := .tuple #[.agg #[.bool s3, .slice A3 n3 c3, .int .i64 x3], .int .i64 1]) (by simp [results, Tryz.results17, go_sem, (br_3.set0 (.bool s3)).cell0, ((br_3.set0 (.bool s3)).set1 (.slice A3 n3 c3)).cell1, (((br_3.set0 (.bool s3)).set1 (.slice A3 n3 c3)).set2 (.int .i64 x3)).cell2]) rfl (gde_end 1 F3 (by omega) br_3 y)
theorem ydown_z (s : Bool) (A : Option Addr) (n c : Nat) (B : Option Addr) (m d : Nat) (k : Nat) (w : World) (h : Iq w s A n c B m d 0) (hn : n ≤ 3) (hm : m ≤ 3) (hk : 1 ≤ k ∧ k ≤ 200) : Calls Tryz.prog 17 #[.agg #[.bool s, .slice A n c, .slice B m d], .int .i64 (k : Int)] w (GDE w 0 0) := by
  have HK := hide hk
  clear hk
  have h_1 := h.alloc (EQ s A n c B m d)
  have bx_1 : Sq ((w).alloc (EQ s A n c B m d)) (w.heap.size) (.bool s) (.slice A n c) (.slice B m d) := by have h_ := Sq.new (w) (.bool s) (.slice A n c) (.slice B m d); exact h_
  have F1 := (Below.refl w.heap.size w).alloc (Nat.le_refl _) (EQ s A n c B m d)
  have h_2 := h_1.alloc EY0
  have bx_2 := bx_1.alloc EY0
  have br_2 : Sy (((w).alloc (EQ s A n c B m d)).alloc EY0) (w.heap.size + 1) (.bool false) (.slice none 0 0) (.int .i64 0) := by have h_ := Sy.new ((w).alloc (EQ s A n c B m d)) (.bool false) (.slice none 0 0) (.int .i64 0); simp only [World.size_alloc] at h_; exact h_
  have F2 := F1.alloc F1.size EY0
  go_enter Tryz.func17, Tryz.ntmps17
  have bx_u2 := bx_2.cell0
  have bx_v2 := bx_2.cell1
  have bx_w2 := bx_2.cell2
  have br_u2 := br_2.cell0
  have br_v2 := br_2.cell1
  have br_w2 := br_2.cell2
  go_wp2_with fail
  refine (rnd_zero _ _ _ _ _ _ _ k _ _ h_2 hn hm HK.out).mono ?_
  rintro e w3 ⟨s3, A3, n3, c3, x3, rfl, y, b3⟩
  have h_3 := h_2.below b3
  have bx_3 := bx_2.below b3 bx_2.lt
  have br_3 := br_2.below b3 br_2.lt
  have F3 := below_then F2 (Nat.le_refl _) b3
  have bx_u3 := bx_3.cell0
  have bx_v3 := bx_3.cell1
  have bx_w3 := bx_3.cell2
  have br_u3 := br_3.cell0
  have br_v3 := br_3.cell1
  have br_w3 := br_3.cell2
  have br_f03 := br_3.frozen 0
  have br_f13 := br_3.frozen 1
  have br_f23 := br_3.frozen 2
  go_wp2_with fail
  refine bodyPost_ret (v := .tuple #[.agg #[.bool s3, .slice A3 n3 c3, .int .i64 x3], .int .i64 0]) (by simp [results, Tryz.results17, go_sem, (br_3.set0 (.bool s3)).cell0, ((br_3.set0 (.bool s3)).set1 (.slice A3 n3 c3)).cell1, (((br_3.set0 (.bool s3)).set1 (.slice A3 n3 c3)).set2 (.int .i64 x3)).cell2]) rfl (gde_end 0 F3 (by omega) br_3 y)
theorem ydown_n (s : Bool) (A : Option Addr) (n c : Nat) (B : Option Addr) (m d : Nat) (k : Nat) (q y : Rat) (w : World) (h : Iq w s A n c B m d q) (hn : n ≤ 3) (hm : m ≤ 3) (hk : 1 ≤ k ∧ k ≤ 200) (h0 : q ≠ 0) (hy : tq q k false = y) (T : Tb w) : Calls Tryz.prog 17 #[.agg #[.bool s, .slice A n c, .slice B m d], .int .i64 (k : Int)] w (GDE w y 0) := by
  have HK := hide hk
  have H0 := hide h0
  have HY := hide hy
  have HA := hide (show (!false == s) = s by cases s <;> rfl)
  clear hk h0 hy
  have h_1 := h.alloc (EQ s A n c B m d)
  have T_1 := T.alloc (EQ s A n c B m d)
  have bx_1 : Sq ((w).alloc (EQ s A n c B m d)) (w.heap.size) (.bool s) (.slice A n c) (.slice B m d) := by have h_ := Sq.new (w) (.bool s) (.slice A n c) (.slice B m d); exact h_
  have F1 := (Below.refl w.heap.size w).alloc (Nat.le_refl _) (EQ s A n c B m d)
  have h_2 := h_1.alloc EY0
  have T_2 := T_1.alloc EY0
  have bx_2 := bx_1.alloc EY0
  have br_2 : Sy (((w).alloc (EQ s A n c B m d)).alloc EY0) (w.heap.size + 1) (.bool false) (.slice none 0 0) (.int .i64 0) := by have h_ := Sy.new ((w).alloc (EQ s A n c B m d)) (.bool false) (.slice none 0 0) (.int .i64 0); simp only [World.size_alloc] at h_; exact h_
  have F2 := F1.alloc F1.size EY0
  go_enter Tryz.func17, Tryz.ntmps17
  have bx_u2 := bx_2.cell0
  have bx_v2 := bx_2.cell1
  have bx_w2 := bx_2.cell2
  have br_u2 := br_2.cell0
  have br_v2 := br_2.cell1
  have br_w2 := br_2.cell2
  go_wp2_with fail
  refine (rnd_q _ _ _ _ _ _ _ k false _ q y _ h_2 hn hm HK.out H0.out HA.out HY.out T_2).mono ?_
  rintro e w3 ⟨s3, A3, n3, c3, x3, rfl, y, b3⟩
  have h_3 := h_2.below b3
  have T_3 := T_2.below b3
  have bx_3 := bx_2.below b3 bx_2.lt
  have br_3 := br_2.below b3 br_2.lt
  have F3 := below_then F2 (Nat.le_refl _) b3
  have bx_u3 := bx_3.cell0
  have bx_v3 := bx_3.cell1
  have bx_w3 := bx_3.cell2
  have br_u3 := br_3.cell0
  have br_v3 := br_3.cell1
  have br_w3 := br_3.cell2
  have br_f03 := br_3.frozen 0
  have br_f13 := br_3.frozen 1
  have br_f23 := br_3.frozen 2
  go_wp2_with fail
  refine bodyPost_ret (v := .tuple #[.agg #[.bool s3, .slice A3 n3 c3, .int .i64 x3], .int .i64 0]) (by simp [results, Tryz.results17, go_sem, (br_3.set0 (.bool s3)).cell0, ((br_3.set0 (.bool s3)).set1 (.slice A3 n3 c3)).cell1, (((br_3.set0 (.bool s3)).set1 (.slice A3 n3 c3)).set2 (.int .i64 x3)).cell2]) rfl (gde_end 0 F3 (by omega) br_3 y)
theorem ydown_q (s : Bool) (A : Option Addr) (n c : Nat) (B : Option Addr) (m d : Nat) (k : Nat) (P : Int) (q : Rat) (w : World) (hP : P = (k : Int)) (h : Iq w s A n c B m d q) (hn : n ≤ 3) (hm : m ≤ 3) (hk : 1 ≤ k ∧ k ≤ 200) (T : Tb w) : Calls Tryz.prog 17 #[.agg #[.bool s, .slice A n c, .slice B m d], .int .i64 P] w (GDE w (tq q k false) 0) := by
  subst hP
  by_cases h0 : q = 0
  · subst h0
    rw [tq_zero]
    exact ydown_z s A n c B m d k w h hn hm hk
  · exact ydown_n s A n c B m d k q _ w h hn hm hk h0 rfl T
theorem yup_b (s : Bool) (A : Option Addr) (n c : Nat) (B : Option Addr) (m d : Nat) (P : Int) (q : Rat) (w : World) (h : Iq w s A n c B m d q) (hn : n ≤ 3) (hm : m ≤ 3) (hP : P < 1 ∨ 4096 < P) : Calls Tryz.prog 18 #[.agg #[.bool s, .slice A n c, .slice B m d], .int .i64 P] w (GDE w 0 1) := by
  have HP := hide hP
  clear hP h
  have bx_1 : Sq ((w).alloc (EQ s A n c B m d)) (w.heap.size) (.bool s) (.slice A n c) (.slice B m d) := by have h_ := Sq.new (w) (.bool s) (.slice A n c) (.slice B m d); exact h_
  have F1 := (Below.refl w.heap.size w).alloc (Nat.le_refl _) (EQ s A n c B m d)
  have bx_2 := bx_1.alloc EY0
  have br_2 : Sy (((w).alloc (EQ s A n c B m d)).alloc EY0) (w.heap.size + 1) (.bool false) (.slice none 0 0) (.int .i64 0) := by have h_ := Sy.new ((w).alloc (EQ s A n c B m d)) (.bool false) (.slice none 0 0) (.int .i64 0); simp only [World.size_alloc] at h_; exact h_
  have F2 := F1.alloc F1.size EY0
  go_enter Tryz.func18, Tryz.ntmps18
  have bx_u2 := bx_2.cell0
  have bx_v2 := bx_2.cell1
  have bx_w2 := bx_2.cell2
  have br_u2 := br_2.cell0
  have br_v2 := br_2.cell1
  have br_w2 := br_2.cell2
  go_wp2_with fail
  refine (rnd_bad _ _ _ _ _ _ _ P _ _ HP.out).mono ?_
  rintro e w3 ⟨s3, A3, n3, c3, x3, rfl, y, b3⟩
  have bx_3 := bx_2.below b3 bx_2.lt
  have br_3 := br_2.below b3 br_2.lt
  have F3 := below_then F2 (Nat.le_refl _) b3
  have bx_u3 := bx_3.cell0
  have bx_v3 := bx_3.cell1
  have bx_w3 := bx_3.cell2
  have br_u3 := br_3.cell0
  have br_v3 := br_3.cell1
  have br_w3 := br_3.cell2
  have br_f03 := br_3.frozen 0
  have br_f13 := br_3.frozen 1
  have br_f23 := br_3.frozen 2
  go_wp2_with fail
  refine bodyPost_ret (v := .tuple #[.agg #[.bool s3, .slice A3 n3 c3, .int .i64 x3], .int .i64 1]) (by simp [results, Tryz.results18, go_sem, (br_3.set0 (.bool s3)).cell0, ((br_3.set0 (.bool s3)).set1 (.slice A3 n3 c3)).cell1, (((br_3.set0 (.bool s3)).set1 (.slice A3 n3 c3)).set2 (.int .i64 x3)).cell2]) rfl (gde_end 1 F3 (by omega) br_3 y)
theorem yup_z (s : Bool) (A : Option Addr) (n c : Nat) (B : Option Addr) (m d : Nat) (k : Nat) (w : World) (h : Iq w s A n c B m d 0) (hn : n ≤ 3) (hm : m ≤ 3) (hk : 1 ≤ k ∧ k ≤ 200) : Calls Tryz.prog 18 #[.agg #[.bool s, .slice A n c, .slice B m d], .int .i64 (k : Int)] w (GDE w 0 0) := by
  have HK := hide hk
  clear hk
  have h_1 := h.alloc (EQ s A n c B m d)
  have bx_1 : Sq ((w).alloc (EQ s A n c B m d)) (w.heap.size) (.bool s) (.slice A n c) (.slice B m d) := by have h_ := Sq.new (w) (.bool s) (.slice A n c) (.slice B m d); exact h_
  have F1 := (Below.refl w.heap.size w).alloc (Nat.le_refl _) (EQ s A n c B m d)
  have h_2 := h_1.alloc EY0
  have bx_2 := bx_1.alloc EY0
  have br_2 : Sy (((w).alloc (EQ s A n c B m d)).alloc EY0) (w.heap.size + 1) (.bool false) (.slice none 0 0) (.int .i64 0) := by have h_ := Sy.new ((w).alloc (EQ s A n c B m d)) (.bool false) (.slice none 0 0) (.int .i64 0); simp only [World.size_alloc] at h_; exact h_
  have F2 := F1.alloc F1.size EY0
  go_enter Tryz.func18, Tryz.ntmps18
  have bx_u2 := bx_2.cell0
  have bx_v2 := bx_2.cell1
  have bx_w2 := bx_2.cell2
  have br_u2 := br_2.cell0
  have br_v2 := br_2.cell1
  have br_w2 := br_2.cell2
  go_wp2_with fail
  refine (rnd_zero _ _ _ _ _ _ _ k _ _ h_2 hn hm HK.out).mono ?_
  rintro e w3 ⟨s3, A3, n3, c3, x3, rfl, y, b3⟩
  have h_3 := h_2.below b3
  have bx_3 := bx_2.below b3 bx_2.lt
  have br_3 := br_2.below b3 br_2.lt
  have F3 := below_then F2 (Nat.le_refl _) b3
  have bx_u3 := bx_3.cell0
  have bx_v3 := bx_3.cell1
  have bx_w3 := bx_3.cell2
  have br_u3 := br_3.cell0
  have br_v3 := br_3.cell1
  have br_w3 := br_3.cell2
  have br_f03 := br_3.frozen 0
  have br_f13 := br_3.frozen 1
  have br_f23 := br_3.frozen 2
  go_wp2_with fail
  refine bodyPost_ret (v := .tuple #[.agg #[.bool s3, .slice A3 n3 c3, .int .i64 x3], .int .i64 0]) (by simp [results, Tryz.results18, go_sem, (br_3.set0 (.bool s3)).cell0, ((br_3.set0 (.bool s3)).set1 (.slice A3 n3 c3)).cell1, (((br_3.set0 (.bool s3)).set1 (.slice A3 n3 c3)).set2 (.int .i64 x3)).cell2]) rfl (gde_end 0 F3 (by omega) br_3 y)
theorem yup_n (s : Bool) (A : Option Addr) (n c : Nat) (B : Option Addr) (m d : Nat) (k : Nat) (q y : Rat) (w : World) (h : Iq w s A n c B m d q) (hn : n ≤ 3) (hm : m ≤ 3) (hk : 1 ≤ k ∧ k ≤ 200) (h0 : q ≠ 0) (hy : tq q k true = y) (T : Tb w) : Calls Tryz.prog 18 #[.agg #[.bool s, .slice A n c, .slice B m d], .int .i64 (k : Int)] w (GDE w y 0) := by
  have HK := hide hk
  have H0 := hide h0
  have HY := hide hy
  have HA := hide (show (!true == s) = (!s) by cases s <;> rfl)
  clear hk h0 hy
  have h_1 := h.alloc (EQ s A n c B m d)
  have T_1 := T.alloc (EQ s A n c B m d)
  have bx_1 : Sq ((w).alloc (EQ s A n c B m d)) (w.heap.size) (.bool s) (.slice A n c) (.slice B m d) := by have h_ := Sq.new (w) (.bool s) (.slice A n c) (.slice B m d); exact h_
  have F1 := (Below.refl w.heap.size w).alloc (Nat.le_refl _) (EQ s A n c B m d)
  have h_2 := h_1.alloc EY0
  have T_2 := T_1.alloc EY0
  have bx_2 := bx_1.alloc EY0
  have br_2 : Sy (((w).alloc (EQ s A n c B m d)).alloc EY0) (w.heap.size + 1) (.bool false) (.slice none 0 0) (.int .i64 0) := by have h_ := Sy.new ((w).alloc (EQ s A n c B m d)) (.bool false) (.slice none 0 0) (.int .i64 0); simp only [World.size_alloc] at h_; exact h_
  have F2 := F1.alloc F1.size EY0
  go_enter Tryz.func18, Tryz.ntmps18
  have bx_u2 := bx_2.cell0
  have bx_v2 := bx_2.cell1
  have bx_w2 := bx_2.cell2
  have br_u2 := br_2.cell0
  have br_v2 := br_2.cell1
  have br_w2 := br_2.cell2
  go_wp2_with fail
  refine (rnd_q _ _ _ _ _ _ _ k true _ q y _ h_2 hn hm HK.out H0.out HA.out HY.out T_2).mono ?_
  rintro e w3 ⟨s3, A3, n3, c3, x3, rfl, y, b3⟩
  have h_3 := h_2.below b3
  have T_3 := T_2.below b3
  have bx_3 := bx_2.below b3 bx_2.lt
  have br_3 := br_2.below b3 br_2.lt
  have F3 := below_then F2 (Nat.le_refl _) b3
  have bx_u3 := bx_3.cell0
  have bx_v3 := bx_3.cell1
  have bx_w3 := bx_3.cell2
  have br_u3 := br_3.cell0
  have br_v3 := br_3.cell1
  have br_w3 := br_3.cell2
  have br_f03 := br_3.frozen 0
  have br_f13 := br_3.frozen 1
  have br_f23 := br_3.frozen 2
  go_wp2_with fail
  refine bodyPost_ret (v := .tuple #[.agg #[.bool s3, .slice A3 n3 c3, .int .i64 x3], .int .i64 0]) (by simp [results, Tryz.results18, go_sem, (br_3.set0 (.bool s3)).cell0, ((br_3.set0 (.bool s3)).set1 (.slice A3 n3 c3)).cell1, (((br_3.set0 (.bool s3)).set1 (.slice A3 n3 c3)).set2 (.int .i64 x3)).cell2]) rfl (gde_end 0 F3 (by omega) br_3 y)
theorem yup_q (s : Bool) (A : Option Addr) (n c : Nat) (B : Option Addr) (m d : Nat) (k : Nat) (P : Int) (q : Rat) (w : World) (hP : P = (k : Int)) (h : Iq w s A n c B m d q) (hn : n ≤ 3) (hm : m ≤ 3) (hk : 1 ≤ k ∧ k ≤ 200) (T : Tb w) : Calls Tryz.prog 18 #[.agg #[.bool s, .slice A n c, .slice B m d], .int .i64 P] w (GDE w (tq q k true) 0) := by
  subst hP
  by_cases h0 : q = 0
  · subst h0
    rw [tq_zero]
    exact yup_z s A n c B m d k w h hn hm hk
  · exact yup_n s A n c B m d k q _ w h hn hm hk h0 rfl T
end Go.Proofs.YtnddhohjfjlaiaaGreatDoor
