/-
  The program's Make, Frac, Mul, Div, Cmp.
-/
import Derived.Test.YtabgniijlofapaaQ2
namespace Go.Proofs.Ytabgniijlofapaa
open Go.RowKit
set_option linter.unusedVariables false
set_option linter.unusedSimpArgs false

theorem make_q0 (s t : Bool) (A B : Option Addr) (n m c d : Nat) (y : Int) (w : World) (h0 : y = 0) (k : Iz w t B m d y) (hm : m ≤ 16384) :
    Calls Try.prog 27 #[.agg #[.bool s, .slice A n c], .agg #[.bool t, .slice B m d]] w (GQE w 0 3) := by
  have HS := hide (show sz y = 0 by rw [h0]; rfl)
  have hm2 : m ≤ 1048576 := by omega
  clear h0
  have k_1 := k.alloc (EI s A n c)
  have ba_1 : Sb ((w).alloc (EI s A n c)) (w.heap.size) (.bool s) (.slice A n c) := by have h_ := Sb.new (w) (.bool s) (.slice A n c); exact h_
  have F1 := (Below.refl w.heap.size w).alloc (Nat.le_refl _) (EI s A n c)
  have k_2 := k_1.alloc (EI t B m d)
  have ba_2 := ba_1.alloc (EI t B m d)
  have bb_2 : Sb (((w).alloc (EI s A n c)).alloc (EI t B m d)) (w.heap.size + 1) (.bool t) (.slice B m d) := by have h_ := Sb.new ((w).alloc (EI s A n c)) (.bool t) (.slice B m d); simp only [World.size_alloc] at h_; exact h_
  have F2 := F1.alloc F1.size (EI t B m d)
  have k_3 := k_2.alloc EQ0
  have ba_3 := ba_2.alloc EQ0
  have bb_3 := bb_2.alloc EQ0
  have br_3 : Sq ((((w).alloc (EI s A n c)).alloc (EI t B m d)).alloc EQ0) (w.heap.size + 2) (.bool false) (.slice none 0 0) (.slice none 0 0) := by have h_ := Sq.new (((w).alloc (EI s A n c)).alloc (EI t B m d)) (.bool false) (.slice none 0 0) (.slice none 0 0); simp only [World.size_alloc] at h_; exact h_
  have F3 := F2.alloc F2.size EQ0
  go_enter Try.func27, Try.ntmps27
  go_wp2_with fail
  refine (sign_int _ _ _ _ _ _ _ HS.out k_3 hm2).mono ?_
  rintro e w4 ⟨rfl, b4⟩
  have k_4 := k_3.below b4
  have ba_4 := ba_3.below b4 ba_3.lt
  have bb_4 := bb_3.below b4 bb_3.lt
  have br_4 := br_3.below b4 br_3.lt
  have F4 := below_then F3 (Nat.le_refl _) b4
  have ba_u4 := ba_4.cell0
  have ba_v4 := ba_4.cell1
  have bb_u4 := bb_4.cell0
  have bb_v4 := bb_4.cell1
  have br_u4 := br_4.cell0
  have br_v4 := br_4.cell1
  have br_w4 := br_4.cell2
  have br_f04 := br_4.frozen 0
  have br_f14 := br_4.frozen 1
  have br_f24 := br_4.frozen 2
  go_wp2_with fail
  refine bodyPost_ret (v := .tuple #[.agg #[.bool false, .slice none 0 0, .slice none 0 0], .int .i64 3]) (by simp [results, Try.results27, go_sem, (br_4.set0 (.bool false)).cell0, ((br_4.set0 (.bool false)).set1 (.slice none 0 0)).cell1, (((br_4.set0 (.bool false)).set1 (.slice none 0 0)).set2 (.slice none 0 0)).cell2]) rfl (gqe_end 3 F4 (by omega) br_4 (cq_zero _))
theorem make_q (s t : Bool) (A B : Option Addr) (n m c d : Nat) (z y : Int) (q : Rat) (w : World) (hq : (z : Rat) / (y : Rat) = q) (h0 : y ≠ 0) (h : Iz w s A n c z) (k : Iz w t B m d y) (hn : n ≤ 16384) (hm : m ≤ 16384) :
    Calls Try.prog 27 #[.agg #[.bool s, .slice A n c], .agg #[.bool t, .slice B m d]] w (GQE w q 0) := by
  obtain ⟨r, hr⟩ : ∃ r, sz y = r := ⟨_, rfl⟩
  have hr0 : (r == 0) = false := by rw [← hr]; unfold sz; rw [if_neg h0]; split <;> rfl
  have HR := hide hr
  have hm2 : m ≤ 1048576 := by omega
  obtain ⟨xs, hx0, ex⟩ := h
  obtain ⟨ys, hy0, ey⟩ := id k
  have HQ := hide (show mkRat (iv (!s == t) (dg (val xs))) (val ys) = q by rw [iv_dg, mk_div, ex, ey, hq])
  have H0 : val ys ≠ 0 := by have := iv_abs t ys; rw [ey] at this; omega
  have hx := hx0.nz hn
  have hy := hy0.nz hm
  have hK : 16384 ≤ 1048576 := by omega
  have hk : 16384 ≤ 65536 := by omega
  clear hr ex ey h0 hq hx0 hy0
  have k_1 := k.alloc (EI s A n c)
  have hx_1 := hx.alloc (EI s A n c)
  have hy_1 := hy.alloc (EI s A n c)
  have ba_1 : Sb ((w).alloc (EI s A n c)) (w.heap.size) (.bool s) (.slice A n c) := by have h_ := Sb.new (w) (.bool s) (.slice A n c); exact h_
  have F1 := (Below.refl w.heap.size w).alloc (Nat.le_refl _) (EI s A n c)
  have k_2 := k_1.alloc (EI t B m d)
  have hx_2 := hx_1.alloc (EI t B m d)
  have hy_2 := hy_1.alloc (EI t B m d)
  have ba_2 := ba_1.alloc (EI t B m d)
  have bb_2 : Sb (((w).alloc (EI s A n c)).alloc (EI t B m d)) (w.heap.size + 1) (.bool t) (.slice B m d) := by have h_ := Sb.new ((w).alloc (EI s A n c)) (.bool t) (.slice B m d); simp only [World.size_alloc] at h_; exact h_
  have F2 := F1.alloc F1.size (EI t B m d)
  have k_3 := k_2.alloc EQ0
  have hx_3 := hx_2.alloc EQ0
  have hy_3 := hy_2.alloc EQ0
  have ba_3 := ba_2.alloc EQ0
  have bb_3 := bb_2.alloc EQ0
  have br_3 : Sq ((((w).alloc (EI s A n c)).alloc (EI t B m d)).alloc EQ0) (w.heap.size + 2) (.bool false) (.slice none 0 0) (.slice none 0 0) := by have h_ := Sq.new (((w).alloc (EI s A n c)).alloc (EI t B m d)) (.bool false) (.slice none 0 0) (.slice none 0 0); simp only [World.size_alloc] at h_; exact h_
  have F3 := F2.alloc F2.size EQ0
  go_enter Try.func27, Try.ntmps27
  go_wp2_with fail
  refine (sign_int _ _ _ _ _ _ _ HR.out k_3 hm2).mono ?_
  rintro e w4 ⟨rfl, b4⟩
  have k_4 := k_3.below b4
  have hx_4 := hx_3.below b4
  have hy_4 := hy_3.below b4
  have ba_4 := ba_3.below b4 ba_3.lt
  have bb_4 := bb_3.below b4 bb_3.lt
  have br_4 := br_3.below b4 br_3.lt
  have F4 := below_then F3 (Nat.le_refl _) b4
  have ba_u4 := ba_4.cell0
  have ba_v4 := ba_4.cell1
  have bb_u4 := bb_4.cell0
  have bb_v4 := bb_4.cell1
  have br_u4 := br_4.cell0
  have br_v4 := br_4.cell1
  have br_w4 := br_4.cell2
  go_wp2_with fail
  have hx_5 := hx_4.drew
  have hy_5 := hy_4.drew
  have ba_5 := ba_4.drew
  have bb_5 := bb_4.drew
  have br_5 := br_4.drew
  have F5 := F4.drew
  go_region_held3 (fun w' => w'.cell? ⟨w.heap.size, 0, none⟩ = some (.bool s) ∧ w'.cell? ⟨w.heap.size, 1, none⟩ = some (.slice A n c) ∧ w'.cell? ⟨w.heap.size + 1, 0, none⟩ = some (.bool t) ∧ w'.cell? ⟨w.heap.size + 1, 1, none⟩ = some (.slice B m d))
    (first
      | with_reducible exact ⟨ba_p.cell0, ba_p.cell1, bb_p.cell0, bb_p.cell1⟩
      | with_reducible exact ⟨ba_8.cell0, ba_8.cell1, bb_8.cell0, bb_8.cell1⟩
      | with_reducible exact ⟨ba_7.cell0, ba_7.cell1, bb_7.cell0, bb_7.cell1⟩
      | with_reducible exact ⟨ba_6.cell0, ba_6.cell1, bb_6.cell0, bb_6.cell1⟩
      | with_reducible exact ⟨ba_5.cell0, ba_5.cell1, bb_5.cell0, bb_5.cell1⟩
      | fail)
    (first
      | (go_at_call 56; (with_reducible refine (make_n _ _ _ 16384 _ _ hx_5 hK).mono ?_); rintro e w6 ⟨A6, n6, c6, rfl, a, b6⟩; have hx_6 := hx_5.below b6; have hy_6 := hy_5.below b6; have ba_6 := ba_5.below b6 ba_5.lt; have bb_6 := bb_5.below b6 bb_5.lt; have br_6 := br_5.below b6 br_5.lt; have F6 := below_then F5 (Nat.le_refl _) b6)
      | (go_at_call 56; (with_reducible refine (make_n _ _ _ 16384 _ _ hy_6 hK).mono ?_); rintro e w7 ⟨A7, n7, c7, rfl, b, b7⟩; have hx_7 := hx_6.below b7; have hy_7 := hy_6.below b7; have a_7 := a.below b7; have ba_7 := ba_6.below b7 ba_6.lt; have bb_7 := bb_6.below b7 bb_6.lt; have br_7 := br_6.below b7 br_6.lt; have F7 := below_then F6 (Nat.le_refl _) b7)
      | (go_at_call 55; (with_reducible refine (quo_n _ _ _ _ _ _ _ _ _ _ _ q _ HQ.out H0 a_7 b hk hk).mono ?_); rintro e w8 ⟨s8, A8, n8, c8, B8, m8, d8, rfl, o, b8⟩; have hx_8 := hx_7.below b8; have hy_8 := hy_7.below b8; have a_8 := a_7.below b8; have b_8 := b.below b8; have ba_8 := ba_7.below b8 ba_7.lt; have bb_8 := bb_7.below b8 bb_7.lt; have br_8 := br_7.below b8 br_7.lt; have F8 := below_then F7 (Nat.le_refl _) b8; have br_g0 := br_8.cell0; have br_h0 := br_8.frozen 0; have br_g1 := br_8.cell1; have br_h1 := br_8.frozen 1; have br_g2 := br_8.cell2; have br_h2 := br_8.frozen 2; have ba_p := ba_8.pastQ (g' := w.heap.size + 2) (u0 := .bool s8) (u1 := .slice A8 n8 c8) (u2 := .slice B8 m8 d8) (by omega); have bb_p := bb_8.pastQ (g' := w.heap.size + 2) (u0 := .bool s8) (u1 := .slice A8 n8 c8) (u2 := .slice B8 m8 d8) (by omega))
      | fail)
  go_wp2_with fail
  refine bodyPost_ret (v := .tuple #[.agg #[.bool s8, .slice A8 n8 c8, .slice B8 m8 d8], .int .i64 0]) (by simp [results, Try.results27, go_sem, (br_8.set0 (.bool s8)).cell0, ((br_8.set0 (.bool s8)).set1 (.slice A8 n8 c8)).cell1, (((br_8.set0 (.bool s8)).set1 (.slice A8 n8 c8)).set2 (.slice B8 m8 d8)).cell2]) rfl (gqe_end 0 F8 (by omega) br_8 o)
theorem frac_q0 (a b : Int) (w : World) (h0 : b = 0) (h1 : -9223372036854775808 ≤ a) (h2 : a ≤ 9223372036854775807) : Calls Try.prog 29 #[.int .i64 a, .int .i64 b] w (GQE w 0 3) := by
  subst h0
  have l2 := i64_small (x := 0) (by omega) (by omega)
  have br_1 : Sq ((w).alloc EQ0) (w.heap.size) (.bool false) (.slice none 0 0) (.slice none 0 0) := by have h_ := Sq.new (w) (.bool false) (.slice none 0 0) (.slice none 0 0); exact h_
  have F1 := (Below.refl w.heap.size w).alloc (Nat.le_refl _) EQ0
  go_enter Try.func29, Try.ntmps29
  go_wp2_with fail
  refine (ofint_int a _ h1 h2).mono ?_
  rintro e w2 ⟨s2, A2, n2, c2, rfl, x, b2⟩
  have br_2 := br_1.below b2 br_1.lt
  have F2 := below_then F1 (Nat.le_refl _) b2
  have br_u2 := br_2.cell0
  have br_v2 := br_2.cell1
  have br_w2 := br_2.cell2
  go_wp2_with fail
  refine (ofint_int 0 _ (by omega) (by omega)).mono ?_
  rintro e w3 ⟨s3, A3, n3, c3, rfl, y, b3⟩
  have x_3 := x.below b3
  have br_3 := br_2.below b3 br_2.lt
  have F3 := below_then F2 (Nat.le_refl _) b3
  have br_u3 := br_3.cell0
  have br_v3 := br_3.cell1
  have br_w3 := br_3.cell2
  have m2 := Nat.le_trans (y.len l2) (show 2 ≤ 16384 by omega)
  go_wp2_with fail
  refine (make_q0 _ _ _ _ _ _ _ _ _ _ rfl y.iz m2).mono ?_
  rintro e w4 ⟨s4, A4, n4, c4, B4, m4, d4, rfl, q, b4⟩
  have x_4 := x_3.below b4
  have y_4 := y.below b4
  have br_4 := br_3.below b4 br_3.lt
  have F4 := below_then F3 (Nat.le_refl _) b4
  have br_u4 := br_4.cell0
  have br_v4 := br_4.cell1
  have br_w4 := br_4.cell2
  have br_f04 := br_4.frozen 0
  have br_f14 := br_4.frozen 1
  have br_f24 := br_4.frozen 2
  go_wp2_with fail
  refine bodyPost_ret (v := .tuple #[.agg #[.bool s4, .slice A4 n4 c4, .slice B4 m4 d4], .int .i64 3]) (by simp [results, Try.results29, go_sem, (br_4.set0 (.bool s4)).cell0, ((br_4.set0 (.bool s4)).set1 (.slice A4 n4 c4)).cell1, (((br_4.set0 (.bool s4)).set1 (.slice A4 n4 c4)).set2 (.slice B4 m4 d4)).cell2]) rfl (gqe_end 3 F4 (by omega) br_4 q)
theorem frac_q (a b : Int) (q : Rat) (w : World) (hq : (a : Rat) / (b : Rat) = q) (h0 : b ≠ 0) (h1 : -9223372036854775808 ≤ a) (h2 : a ≤ 9223372036854775807) (h3 : -9223372036854775808 ≤ b) (h4 : b ≤ 9223372036854775807) : Calls Try.prog 29 #[.int .i64 a, .int .i64 b] w (GQE w q 0) := by
  have l1 := i64_small h1 h2
  have l2 := i64_small h3 h4
  have br_1 : Sq ((w).alloc EQ0) (w.heap.size) (.bool false) (.slice none 0 0) (.slice none 0 0) := by have h_ := Sq.new (w) (.bool false) (.slice none 0 0) (.slice none 0 0); exact h_
  have F1 := (Below.refl w.heap.size w).alloc (Nat.le_refl _) EQ0
  go_enter Try.func29, Try.ntmps29
  go_wp2_with fail
  refine (ofint_int a _ h1 h2).mono ?_
  rintro e w2 ⟨s2, A2, n2, c2, rfl, x, b2⟩
  have br_2 := br_1.below b2 br_1.lt
  have F2 := below_then F1 (Nat.le_refl _) b2
  have br_u2 := br_2.cell0
  have br_v2 := br_2.cell1
  have br_w2 := br_2.cell2
  go_wp2_with fail
  refine (ofint_int b _ h3 h4).mono ?_
  rintro e w3 ⟨s3, A3, n3, c3, rfl, y, b3⟩
  have x_3 := x.below b3
  have br_3 := br_2.below b3 br_2.lt
  have F3 := below_then F2 (Nat.le_refl _) b3
  have br_u3 := br_3.cell0
  have br_v3 := br_3.cell1
  have br_w3 := br_3.cell2
  have m2 := Nat.le_trans (y.len l2) (show 2 ≤ 16384 by omega)
  have m1 := Nat.le_trans (x_3.len l1) (show 2 ≤ 16384 by omega)
  go_wp2_with fail
  refine (make_q _ _ _ _ _ _ _ _ _ _ q _ hq h0 x_3.iz y.iz m1 m2).mono ?_
  rintro e w4 ⟨s4, A4, n4, c4, B4, m4, d4, rfl, q_, b4⟩
  have x_4 := x_3.below b4
  have y_4 := y.below b4
  have br_4 := br_3.below b4 br_3.lt
  have F4 := below_then F3 (Nat.le_refl _) b4
  have br_u4 := br_4.cell0
  have br_v4 := br_4.cell1
  have br_w4 := br_4.cell2
  have br_f04 := br_4.frozen 0
  have br_f14 := br_4.frozen 1
  have br_f24 := br_4.frozen 2
  go_wp2_with fail
  refine bodyPost_ret (v := .tuple #[.agg #[.bool s4, .slice A4 n4 c4, .slice B4 m4 d4], .int .i64 0]) (by simp [results, Try.results29, go_sem, (br_4.set0 (.bool s4)).cell0, ((br_4.set0 (.bool s4)).set1 (.slice A4 n4 c4)).cell1, (((br_4.set0 (.bool s4)).set1 (.slice A4 n4 c4)).set2 (.slice B4 m4 d4)).cell2]) rfl (gqe_end 0 F4 (by omega) br_4 q_)
set_option maxHeartbeats 1000000 in
theorem mul_q (s t : Bool) (A B A' B' : Option Addr) (n c m d n' c' m' d' : Nat) (p q r : Rat) (w : World) (hr : p * q = r) (h : Iq w s A n c B m d p) (k : Iq w t A' n' c' B' m' d' q) (hn : n ≤ 4000) (hm : m ≤ 4000) (hn' : n' ≤ 4000) (hm' : m' ≤ 4000) :
    Calls Try.prog 30 #[.agg #[.bool s, .slice A n c, .slice B m d], .agg #[.bool t, .slice A' n' c', .slice B' m' d']] w (GQ w r) := by
  obtain ⟨xs, ys, hx0, hy, ep⟩ := h
  obtain ⟨xs', ys', kx0, ky, eq⟩ := k
  have hx := hx0.nz hn
  have kx := kx0.nz hn'
  obtain ⟨X, hX⟩ : ∃ X, val xs = X := ⟨_, rfl⟩
  obtain ⟨X', hX'⟩ : ∃ X, val xs' = X := ⟨_, rfl⟩
  obtain ⟨D, hD⟩ : ∃ D, rden ys = D := ⟨_, rfl⟩
  obtain ⟨D', hD'⟩ : ∃ D, rden ys' = D := ⟨_, rfl⟩
  rw [hX] at hx
  rw [hX'] at kx
  have HD := hide hD
  have HD' := hide hD'
  have o1 : 1 ≤ 4000 := by omega
  have o2 : 4000 ≤ 1048576 := by omega
  have o3 : 4000 + 4000 ≤ 8000 := by omega
  have o4 : 8000 ≤ 1048576 := by omega
  have o5 : 8000 ≤ 65536 := by omega
  have HQ := hide (show mkRat (iv (!s == t) (dg (X * X'))) (D * D') = r by rw [← hX, ← hX', iv_prod, ← hD, ← hD', ← hr, ← ep, ← eq, rv, rv, Rat.mkRat_mul_mkRat])
  have H0 : D * D' ≠ 0 := by rw [← hD, ← hD']; exact Nat.mul_ne_zero (rden_pos _) (rden_pos _)
  clear ep eq hD hD' hX hX' hx0 kx0 hr
  have hx_1 := hx.alloc (EQ s A n c B m d)
  have hy_1 := hy.alloc (EQ s A n c B m d)
  have kx_1 := kx.alloc (EQ s A n c B m d)
  have ky_1 := ky.alloc (EQ s A n c B m d)
  have ba_1 : Sq ((w).alloc (EQ s A n c B m d)) (w.heap.size) (.bool s) (.slice A n c) (.slice B m d) := by have h_ := Sq.new (w) (.bool s) (.slice A n c) (.slice B m d); exact h_
  have F1 := (Below.refl w.heap.size w).alloc (Nat.le_refl _) (EQ s A n c B m d)
  have hx_2 := hx_1.alloc (EQ t A' n' c' B' m' d')
  have hy_2 := hy_1.alloc (EQ t A' n' c' B' m' d')
  have kx_2 := kx_1.alloc (EQ t A' n' c' B' m' d')
  have ky_2 := ky_1.alloc (EQ t A' n' c' B' m' d')
  have ba_2 := ba_1.alloc (EQ t A' n' c' B' m' d')
  have bb_2 : Sq (((w).alloc (EQ s A n c B m d)).alloc (EQ t A' n' c' B' m' d')) (w.heap.size + 1) (.bool t) (.slice A' n' c') (.slice B' m' d') := by have h_ := Sq.new ((w).alloc (EQ s A n c B m d)) (.bool t) (.slice A' n' c') (.slice B' m' d'); simp only [World.size_alloc] at h_; exact h_
  have F2 := F1.alloc F1.size (EQ t A' n' c' B' m' d')
  have hx_3 := hx_2.alloc EQ0
  have hy_3 := hy_2.alloc EQ0
  have kx_3 := kx_2.alloc EQ0
  have ky_3 := ky_2.alloc EQ0
  have ba_3 := ba_2.alloc EQ0
  have bb_3 := bb_2.alloc EQ0
  have br_3 : Sq ((((w).alloc (EQ s A n c B m d)).alloc (EQ t A' n' c' B' m' d')).alloc EQ0) (w.heap.size + 2) (.bool false) (.slice none 0 0) (.slice none 0 0) := by have h_ := Sq.new (((w).alloc (EQ s A n c B m d)).alloc (EQ t A' n' c' B' m' d')) (.bool false) (.slice none 0 0) (.slice none 0 0); simp only [World.size_alloc] at h_; exact h_
  have F3 := F2.alloc F2.size EQ0
  go_enter Try.func30, Try.ntmps30
  go_wp2_with fail
  have hx_4 := hx_3.drew
  have hy_4 := hy_3.drew
  have kx_4 := kx_3.drew
  have ky_4 := ky_3.drew
  have ba_4 := ba_3.drew
  have bb_4 := bb_3.drew
  have br_4 := br_3.drew
  have F4 := F3.drew
  go_region_held3 (fun w' => w'.cell? ⟨w.heap.size, 0, none⟩ = some (.bool s) ∧ w'.cell? ⟨w.heap.size, 1, none⟩ = some (.slice A n c) ∧ w'.cell? ⟨w.heap.size, 2, none⟩ = some (.slice B m d) ∧ w'.cell? ⟨w.heap.size + 1, 0, none⟩ = some (.bool t) ∧ w'.cell? ⟨w.heap.size + 1, 1, none⟩ = some (.slice A' n' c') ∧ w'.cell? ⟨w.heap.size + 1, 2, none⟩ = some (.slice B' m' d'))
    (first
      | with_reducible exact ⟨ba_p.cell0, ba_p.cell1, ba_p.cell2, bb_p.cell0, bb_p.cell1, bb_p.cell2⟩
      | with_reducible exact ⟨ba_9.cell0, ba_9.cell1, ba_9.cell2, bb_9.cell0, bb_9.cell1, bb_9.cell2⟩
      | with_reducible exact ⟨ba_8.cell0, ba_8.cell1, ba_8.cell2, bb_8.cell0, bb_8.cell1, bb_8.cell2⟩
      | with_reducible exact ⟨ba_7.cell0, ba_7.cell1, ba_7.cell2, bb_7.cell0, bb_7.cell1, bb_7.cell2⟩
      | with_reducible exact ⟨ba_6.cell0, ba_6.cell1, ba_6.cell2, bb_6.cell0, bb_6.cell1, bb_6.cell2⟩
      | with_reducible exact ⟨ba_5.cell0, ba_5.cell1, ba_5.cell2, bb_5.cell0, bb_5.cell1, bb_5.cell2⟩
      | with_reducible exact ⟨ba_4.cell0, ba_4.cell1, ba_4.cell2, bb_4.cell0, bb_4.cell1, bb_4.cell2⟩
      | fail)
    (first
      | (go_at_call 65; (with_reducible refine (mul_n _ _ _ _ _ _ 4000 4000 8000 _ _ (X * X') _ rfl hx_4 kx_4 o3 o4).mono ?_); rintro e w5 ⟨A5, n5, c5, rfl, p1, b5⟩; have hx_5 := hx_4.below b5; have hy_5 := hy_4.below b5; have kx_5 := kx_4.below b5; have ky_5 := ky_4.below b5; have ba_5 := ba_4.below b5 ba_4.lt; have bb_5 := bb_4.below b5 bb_4.lt; have br_5 := br_4.below b5 br_4.lt; have F5 := below_then F4 (Nat.le_refl _) b5)
      | (go_at_call 57; (with_reducible refine (divisor_n _ _ _ _ _ _ _ ys 4000 D _ HD.out hy_5 hm o1 o2).mono ?_); rintro e w6 ⟨A6, n6, c6, rfl, a, b6⟩; have hx_6 := hx_5.below b6; have hy_6 := hy_5.below b6; have kx_6 := kx_5.below b6; have ky_6 := ky_5.below b6; have p1_6 := p1.below b6; have ba_6 := ba_5.below b6 ba_5.lt; have bb_6 := bb_5.below b6 bb_5.lt; have br_6 := br_5.below b6 br_5.lt; have F6 := below_then F5 (Nat.le_refl _) b6)
      | (go_at_call 57; (with_reducible refine (divisor_n _ _ _ _ _ _ _ ys' 4000 D' _ HD'.out ky_6 hm' o1 o2).mono ?_); rintro e w7 ⟨A7, n7, c7, rfl, b, b7⟩; have hx_7 := hx_6.below b7; have hy_7 := hy_6.below b7; have kx_7 := kx_6.below b7; have ky_7 := ky_6.below b7; have p1_7 := p1_6.below b7; have a_7 := a.below b7; have ba_7 := ba_6.below b7 ba_6.lt; have bb_7 := bb_6.below b7 bb_6.lt; have br_7 := br_6.below b7 br_6.lt; have F7 := below_then F6 (Nat.le_refl _) b7)
      | (go_at_call 65; (with_reducible refine (mul_n _ _ _ _ _ _ 4000 4000 8000 _ _ (D * D') _ rfl a_7 b o3 o4).mono ?_); rintro e w8 ⟨A8, n8, c8, rfl, p2, b8⟩; have hx_8 := hx_7.below b8; have hy_8 := hy_7.below b8; have kx_8 := kx_7.below b8; have ky_8 := ky_7.below b8; have p1_8 := p1_7.below b8; have a_8 := a_7.below b8; have b_8 := b.below b8; have ba_8 := ba_7.below b8 ba_7.lt; have bb_8 := bb_7.below b8 bb_7.lt; have br_8 := br_7.below b8 br_7.lt; have F8 := below_then F7 (Nat.le_refl _) b8)
      | (go_at_call 55; (with_reducible refine (quo_n _ _ _ _ _ _ _ _ _ _ _ r _ HQ.out H0 p1_8 p2 o5 o5).mono ?_); rintro e w9 ⟨s9, A9, n9, c9, B9, m9, d9, rfl, kk, b9⟩; have hx_9 := hx_8.below b9; have hy_9 := hy_8.below b9; have kx_9 := kx_8.below b9; have ky_9 := ky_8.below b9; have p1_9 := p1_8.below b9; have a_9 := a_8.below b9; have b_9 := b_8.below b9; have p2_9 := p2.below b9; have ba_9 := ba_8.below b9 ba_8.lt; have bb_9 := bb_8.below b9 bb_8.lt; have br_9 := br_8.below b9 br_8.lt; have F9 := below_then F8 (Nat.le_refl _) b9; have br_g0 := br_9.cell0; have br_h0 := br_9.frozen 0; have br_g1 := br_9.cell1; have br_h1 := br_9.frozen 1; have br_g2 := br_9.cell2; have br_h2 := br_9.frozen 2; have ba_p := ba_9.past (g' := w.heap.size + 2) (u0 := .bool s9) (u1 := .slice A9 n9 c9) (u2 := .slice B9 m9 d9) (by omega); have bb_p := bb_9.past (g' := w.heap.size + 2) (u0 := .bool s9) (u1 := .slice A9 n9 c9) (u2 := .slice B9 m9 d9) (by omega))
      | fail)
  go_wp2_with fail
  refine bodyPost_ret (v := .agg #[.bool s9, .slice A9 n9 c9, .slice B9 m9 d9]) (by simp [results, Try.results30, go_sem, (br_9.set0 (.bool s9)).cell0, ((br_9.set0 (.bool s9)).set1 (.slice A9 n9 c9)).cell1, (((br_9.set0 (.bool s9)).set1 (.slice A9 n9 c9)).set2 (.slice B9 m9 d9)).cell2]) rfl (gq_end F9 (by omega) br_9 kk)
theorem div_q0 (s t : Bool) (A B A' B' : Option Addr) (n c m d n' c' m' d' : Nat) (q : Rat) (w : World) (h0 : q = 0) (k : Iq w t A' n' c' B' m' d' q) (hn' : n' ≤ 16384) :
    Calls Try.prog 38 #[.agg #[.bool s, .slice A n c, .slice B m d], .agg #[.bool t, .slice A' n' c', .slice B' m' d']] w (GQE w 0 3) := by
  have HS := hide (show sz q.num = 0 by rw [h0]; rfl)
  clear h0
  have k_1 := k.alloc (EQ s A n c B m d)
  have ba_1 : Sq ((w).alloc (EQ s A n c B m d)) (w.heap.size) (.bool s) (.slice A n c) (.slice B m d) := by have h_ := Sq.new (w) (.bool s) (.slice A n c) (.slice B m d); exact h_
  have F1 := (Below.refl w.heap.size w).alloc (Nat.le_refl _) (EQ s A n c B m d)
  have k_2 := k_1.alloc (EQ t A' n' c' B' m' d')
  have ba_2 := ba_1.alloc (EQ t A' n' c' B' m' d')
  have bb_2 : Sq (((w).alloc (EQ s A n c B m d)).alloc (EQ t A' n' c' B' m' d')) (w.heap.size + 1) (.bool t) (.slice A' n' c') (.slice B' m' d') := by have h_ := Sq.new ((w).alloc (EQ s A n c B m d)) (.bool t) (.slice A' n' c') (.slice B' m' d'); simp only [World.size_alloc] at h_; exact h_
  have F2 := F1.alloc F1.size (EQ t A' n' c' B' m' d')
  have k_3 := k_2.alloc EQ0
  have ba_3 := ba_2.alloc EQ0
  have bb_3 := bb_2.alloc EQ0
  have br_3 : Sq ((((w).alloc (EQ s A n c B m d)).alloc (EQ t A' n' c' B' m' d')).alloc EQ0) (w.heap.size + 2) (.bool false) (.slice none 0 0) (.slice none 0 0) := by have h_ := Sq.new (((w).alloc (EQ s A n c B m d)).alloc (EQ t A' n' c' B' m' d')) (.bool false) (.slice none 0 0) (.slice none 0 0); simp only [World.size_alloc] at h_; exact h_
  have F3 := F2.alloc F2.size EQ0
  go_enter Try.func38, Try.ntmps38
  go_wp2_with fail
  refine (sign_q _ _ _ _ _ _ _ _ _ _ HS.out k_3 hn').mono ?_
  rintro e w4 ⟨rfl, b4⟩
  have k_4 := k_3.below b4
  have ba_4 := ba_3.below b4 ba_3.lt
  have bb_4 := bb_3.below b4 bb_3.lt
  have br_4 := br_3.below b4 br_3.lt
  have F4 := below_then F3 (Nat.le_refl _) b4
  have ba_u4 := ba_4.cell0
  have ba_v4 := ba_4.cell1
  have ba_w4 := ba_4.cell2
  have bb_u4 := bb_4.cell0
  have bb_v4 := bb_4.cell1
  have bb_w4 := bb_4.cell2
  have br_u4 := br_4.cell0
  have br_v4 := br_4.cell1
  have br_w4 := br_4.cell2
  have br_f04 := br_4.frozen 0
  have br_f14 := br_4.frozen 1
  have br_f24 := br_4.frozen 2
  go_wp2_with fail
  refine bodyPost_ret (v := .tuple #[.agg #[.bool false, .slice none 0 0, .slice none 0 0], .int .i64 3]) (by simp [results, Try.results38, go_sem, (br_4.set0 (.bool false)).cell0, ((br_4.set0 (.bool false)).set1 (.slice none 0 0)).cell1, (((br_4.set0 (.bool false)).set1 (.slice none 0 0)).set2 (.slice none 0 0)).cell2]) rfl (gqe_end 3 F4 (by omega) br_4 (cq_zero _))
set_option maxHeartbeats 1000000 in
theorem div_q (s t : Bool) (A B A' B' : Option Addr) (n c m d n' c' m' d' : Nat) (p q r : Rat) (w : World) (hr : p / q = r) (h0 : q ≠ 0) (h : Iq w s A n c B m d p) (k : Iq w t A' n' c' B' m' d' q) (hn : n ≤ 4000) (hm : m ≤ 4000) (hn' : n' ≤ 4000) (hm' : m' ≤ 4000) :
    Calls Try.prog 38 #[.agg #[.bool s, .slice A n c, .slice B m d], .agg #[.bool t, .slice A' n' c', .slice B' m' d']] w (GQE w r 0) := by
  obtain ⟨z, hz⟩ : ∃ z, sz q.num = z := ⟨_, rfl⟩
  have hz0 : (z == 0) = false := by
    rw [← hz]
    have : q.num ≠ 0 := fun e => h0 (num_zero.1 e)
    unfold sz
    rw [if_neg this]
    split <;> rfl
  have HZ := hide hz
  have hk := k
  have n5 : n' ≤ 16384 := by omega
  obtain ⟨xs, ys, hx0, hy, ep⟩ := h
  obtain ⟨xs', ys', kx0, ky, eq⟩ := k
  have hx := hx0.nz hn
  have kx := kx0.nz hn'
  obtain ⟨X, hX⟩ : ∃ X, val xs = X := ⟨_, rfl⟩
  obtain ⟨X', hX'⟩ : ∃ X, val xs' = X := ⟨_, rfl⟩
  obtain ⟨D, hD⟩ : ∃ D, rden ys = D := ⟨_, rfl⟩
  obtain ⟨D', hD'⟩ : ∃ D, rden ys' = D := ⟨_, rfl⟩
  rw [hX] at hx
  rw [hX'] at kx
  have HD := hide hD
  have HD' := hide hD'
  have o1 : 1 ≤ 4000 := by omega
  have o2 : 4000 ≤ 1048576 := by omega
  have o3 : 4000 + 4000 ≤ 8000 := by omega
  have o4 : 8000 ≤ 1048576 := by omega
  have o5 : 8000 ≤ 65536 := by omega
  have HQ := hide (show mkRat (iv (!s == t) (dg (X * D'))) (D * X') = r by rw [← hX, ← hX', ← hD, ← hD', div_value s t xs ys xs' ys' (by rw [eq]; exact h0), ep, eq, hr])
  have H0 : D * X' ≠ 0 := by
    rw [← hD, ← hX']
    refine Nat.mul_ne_zero (rden_pos _) fun e => h0 ?_
    rw [← eq, rv, show iv t xs' = 0 by unfold iv; simp [e], Rat.zero_mkRat]
  clear ep eq hD hD' hX hX' hx0 kx0 hr
  clear hz h0
  have hk_1 := hk.alloc (EQ s A n c B m d)
  have hx_1 := hx.alloc (EQ s A n c B m d)
  have hy_1 := hy.alloc (EQ s A n c B m d)
  have kx_1 := kx.alloc (EQ s A n c B m d)
  have ky_1 := ky.alloc (EQ s A n c B m d)
  have ba_1 : Sq ((w).alloc (EQ s A n c B m d)) (w.heap.size) (.bool s) (.slice A n c) (.slice B m d) := by have h_ := Sq.new (w) (.bool s) (.slice A n c) (.slice B m d); exact h_
  have F1 := (Below.refl w.heap.size w).alloc (Nat.le_refl _) (EQ s A n c B m d)
  have hk_2 := hk_1.alloc (EQ t A' n' c' B' m' d')
  have hx_2 := hx_1.alloc (EQ t A' n' c' B' m' d')
  have hy_2 := hy_1.alloc (EQ t A' n' c' B' m' d')
  have kx_2 := kx_1.alloc (EQ t A' n' c' B' m' d')
  have ky_2 := ky_1.alloc (EQ t A' n' c' B' m' d')
  have ba_2 := ba_1.alloc (EQ t A' n' c' B' m' d')
  have bb_2 : Sq (((w).alloc (EQ s A n c B m d)).alloc (EQ t A' n' c' B' m' d')) (w.heap.size + 1) (.bool t) (.slice A' n' c') (.slice B' m' d') := by have h_ := Sq.new ((w).alloc (EQ s A n c B m d)) (.bool t) (.slice A' n' c') (.slice B' m' d'); simp only [World.size_alloc] at h_; exact h_
  have F2 := F1.alloc F1.size (EQ t A' n' c' B' m' d')
  have hk_3 := hk_2.alloc EQ0
  have hx_3 := hx_2.alloc EQ0
  have hy_3 := hy_2.alloc EQ0
  have kx_3 := kx_2.alloc EQ0
  have ky_3 := ky_2.alloc EQ0
  have ba_3 := ba_2.alloc EQ0
  have bb_3 := bb_2.alloc EQ0
  have br_3 : Sq ((((w).alloc (EQ s A n c B m d)).alloc (EQ t A' n' c' B' m' d')).alloc EQ0) (w.heap.size + 2) (.bool false) (.slice none 0 0) (.slice none 0 0) := by have h_ := Sq.new (((w).alloc (EQ s A n c B m d)).alloc (EQ t A' n' c' B' m' d')) (.bool false) (.slice none 0 0) (.slice none 0 0); simp only [World.size_alloc] at h_; exact h_
  have F3 := F2.alloc F2.size EQ0
  go_enter Try.func38, Try.ntmps38
  go_wp2_with fail
  refine (sign_q _ _ _ _ _ _ _ _ _ _ HZ.out hk_3 n5).mono ?_
  rintro e w4 ⟨rfl, b4⟩
  have hk_4 := hk_3.below b4
  have hx_4 := hx_3.below b4
  have hy_4 := hy_3.below b4
  have kx_4 := kx_3.below b4
  have ky_4 := ky_3.below b4
  have ba_4 := ba_3.below b4 ba_3.lt
  have bb_4 := bb_3.below b4 bb_3.lt
  have br_4 := br_3.below b4 br_3.lt
  have F4 := below_then F3 (Nat.le_refl _) b4
  have ba_u4 := ba_4.cell0
  have ba_v4 := ba_4.cell1
  have ba_w4 := ba_4.cell2
  have bb_u4 := bb_4.cell0
  have bb_v4 := bb_4.cell1
  have bb_w4 := bb_4.cell2
  have br_u4 := br_4.cell0
  have br_v4 := br_4.cell1
  have br_w4 := br_4.cell2
  go_wp2_with fail
  have hx_5 := hx_4.drew
  have hy_5 := hy_4.drew
  have kx_5 := kx_4.drew
  have ky_5 := ky_4.drew
  have ba_5 := ba_4.drew
  have bb_5 := bb_4.drew
  have br_5 := br_4.drew
  have F5 := F4.drew
  go_region_held3 (fun w' => w'.cell? ⟨w.heap.size, 0, none⟩ = some (.bool s) ∧ w'.cell? ⟨w.heap.size, 1, none⟩ = some (.slice A n c) ∧ w'.cell? ⟨w.heap.size, 2, none⟩ = some (.slice B m d) ∧ w'.cell? ⟨w.heap.size + 1, 0, none⟩ = some (.bool t) ∧ w'.cell? ⟨w.heap.size + 1, 1, none⟩ = some (.slice A' n' c') ∧ w'.cell? ⟨w.heap.size + 1, 2, none⟩ = some (.slice B' m' d'))
    (first
      | with_reducible exact ⟨ba_p.cell0, ba_p.cell1, ba_p.cell2, bb_p.cell0, bb_p.cell1, bb_p.cell2⟩
      | with_reducible exact ⟨ba_10.cell0, ba_10.cell1, ba_10.cell2, bb_10.cell0, bb_10.cell1, bb_10.cell2⟩
      | with_reducible exact ⟨ba_9.cell0, ba_9.cell1, ba_9.cell2, bb_9.cell0, bb_9.cell1, bb_9.cell2⟩
      | with_reducible exact ⟨ba_8.cell0, ba_8.cell1, ba_8.cell2, bb_8.cell0, bb_8.cell1, bb_8.cell2⟩
      | with_reducible exact ⟨ba_7.cell0, ba_7.cell1, ba_7.cell2, bb_7.cell0, bb_7.cell1, bb_7.cell2⟩
      | with_reducible exact ⟨ba_6.cell0, ba_6.cell1, ba_6.cell2, bb_6.cell0, bb_6.cell1, bb_6.cell2⟩
      | with_reducible exact ⟨ba_5.cell0, ba_5.cell1, ba_5.cell2, bb_5.cell0, bb_5.cell1, bb_5.cell2⟩
      | fail)
    (first
      | (go_at_call 57; (with_reducible refine (divisor_n _ _ _ _ _ _ _ ys' 4000 D' _ HD'.out ky_5 hm' o1 o2).mono ?_); rintro e w6 ⟨A6, n6, c6, rfl, b, b6⟩; have hx_6 := hx_5.below b6; have hy_6 := hy_5.below b6; have kx_6 := kx_5.below b6; have ky_6 := ky_5.below b6; have ba_6 := ba_5.below b6 ba_5.lt; have bb_6 := bb_5.below b6 bb_5.lt; have br_6 := br_5.below b6 br_5.lt; have F6 := below_then F5 (Nat.le_refl _) b6)
      | (go_at_call 65; (with_reducible refine (mul_n _ _ _ _ _ _ 4000 4000 8000 _ _ (X * D') _ rfl hx_6 b o3 o4).mono ?_); rintro e w7 ⟨A7, n7, c7, rfl, p1, b7⟩; have hx_7 := hx_6.below b7; have hy_7 := hy_6.below b7; have kx_7 := kx_6.below b7; have ky_7 := ky_6.below b7; have b_7 := b.below b7; have ba_7 := ba_6.below b7 ba_6.lt; have bb_7 := bb_6.below b7 bb_6.lt; have br_7 := br_6.below b7 br_6.lt; have F7 := below_then F6 (Nat.le_refl _) b7)
      | (go_at_call 57; (with_reducible refine (divisor_n _ _ _ _ _ _ _ ys 4000 D _ HD.out hy_7 hm o1 o2).mono ?_); rintro e w8 ⟨A8, n8, c8, rfl, a, b8⟩; have hx_8 := hx_7.below b8; have hy_8 := hy_7.below b8; have kx_8 := kx_7.below b8; have ky_8 := ky_7.below b8; have b_8 := b_7.below b8; have p1_8 := p1.below b8; have ba_8 := ba_7.below b8 ba_7.lt; have bb_8 := bb_7.below b8 bb_7.lt; have br_8 := br_7.below b8 br_7.lt; have F8 := below_then F7 (Nat.le_refl _) b8)
      | (go_at_call 65; (with_reducible refine (mul_n _ _ _ _ _ _ 4000 4000 8000 _ _ (D * X') _ rfl a kx_8 o3 o4).mono ?_); rintro e w9 ⟨A9, n9, c9, rfl, p2, b9⟩; have hx_9 := hx_8.below b9; have hy_9 := hy_8.below b9; have kx_9 := kx_8.below b9; have ky_9 := ky_8.below b9; have b_9 := b_8.below b9; have p1_9 := p1_8.below b9; have a_9 := a.below b9; have ba_9 := ba_8.below b9 ba_8.lt; have bb_9 := bb_8.below b9 bb_8.lt; have br_9 := br_8.below b9 br_8.lt; have F9 := below_then F8 (Nat.le_refl _) b9)
      | (go_at_call 55; (with_reducible refine (quo_n _ _ _ _ _ _ _ _ _ _ _ r _ HQ.out H0 p1_9 p2 o5 o5).mono ?_); rintro e w10 ⟨s10, A10, n10, c10, B10, m10, d10, rfl, kk, b10⟩; have hx_10 := hx_9.below b10; have hy_10 := hy_9.below b10; have kx_10 := kx_9.below b10; have ky_10 := ky_9.below b10; have b_10 := b_9.below b10; have p1_10 := p1_9.below b10; have a_10 := a_9.below b10; have p2_10 := p2.below b10; have ba_10 := ba_9.below b10 ba_9.lt; have bb_10 := bb_9.below b10 bb_9.lt; have br_10 := br_9.below b10 br_9.lt; have F10 := below_then F9 (Nat.le_refl _) b10; have br_g0 := br_10.cell0; have br_h0 := br_10.frozen 0; have br_g1 := br_10.cell1; have br_h1 := br_10.frozen 1; have br_g2 := br_10.cell2; have br_h2 := br_10.frozen 2; have ba_p := ba_10.past (g' := w.heap.size + 2) (u0 := .bool s10) (u1 := .slice A10 n10 c10) (u2 := .slice B10 m10 d10) (by omega); have bb_p := bb_10.past (g' := w.heap.size + 2) (u0 := .bool s10) (u1 := .slice A10 n10 c10) (u2 := .slice B10 m10 d10) (by omega))
      | fail)
  go_wp2_with fail
  refine bodyPost_ret (v := .tuple #[.agg #[.bool s10, .slice A10 n10 c10, .slice B10 m10 d10], .int .i64 0]) (by simp [results, Try.results38, go_sem, (br_10.set0 (.bool s10)).cell0, ((br_10.set0 (.bool s10)).set1 (.slice A10 n10 c10)).cell1, (((br_10.set0 (.bool s10)).set1 (.slice A10 n10 c10)).set2 (.slice B10 m10 d10)).cell2]) rfl (gqe_end 0 F10 (by omega) br_10 kk)
theorem mk_sign (z : Int) (d : Nat) (hd : d ≠ 0) : sz (mkRat z d).num = sz z := by
  rw [Rat.num_mkRat, if_neg hd]
  have h0 : 0 < d.gcd z.natAbs := Nat.gcd_pos_of_pos_left _ (by omega)
  have h1 : ((d.gcd z.natAbs : Nat) : Int) ∣ z := Int.ofNat_dvd_left.2 (Nat.gcd_dvd_right _ _)
  generalize d.gcd z.natAbs = g at h0 h1
  obtain ⟨k, hk⟩ := h1
  rw [hk, Int.mul_ediv_cancel_left _ (by omega)]
  exact (sz_mul' (g : Int) k (by omega)).symm
theorem sub_value (s t : Bool) (xs ys xs' ys' : List Nat) : mkRat (iv s xs * (rden ys' : Int) - iv t xs' * (rden ys : Int)) (rden ys * rden ys') = rv s xs ys - rv t xs' ys' := by
  rw [rv, rv, Rat.sub_eq_add_neg, Rat.neg_mkRat, Rat.mkRat_add_mkRat _ _ (rden_pos _) (rden_pos _), Int.neg_mul, Int.sub_eq_add_neg]
theorem cmp_value (s t : Bool) (xs ys xs' ys' : List Nat) : sz (iv s (dg (val xs * rden ys')) - iv t (dg (val xs' * rden ys))) = sz (rv s xs ys - rv t xs' ys').num := by
  rw [← sub_value, mk_sign _ _ (Nat.mul_ne_zero (rden_pos _) (rden_pos _)), iv_times s _ _ xs rfl, iv_times t _ _ xs' rfl]
set_option maxHeartbeats 1000000 in
theorem cmp_q (s t : Bool) (A B A' B' : Option Addr) (n c m d n' c' m' d' : Nat) (p q : Rat) (r : Int) (w : World) (hr : sz (p - q).num = r) (h : Iq w s A n c B m d p) (k : Iq w t A' n' c' B' m' d' q) (hn : n ≤ 4000) (hm : m ≤ 4000) (hn' : n' ≤ 4000) (hm' : m' ≤ 4000) :
    Calls Try.prog 39 #[.agg #[.bool s, .slice A n c, .slice B m d], .agg #[.bool t, .slice A' n' c', .slice B' m' d']] w (Asks w (.int .i64 r)) := by
  obtain ⟨xs, ys, hx0, hy, ep⟩ := h
  obtain ⟨xs', ys', kx0, ky, eq⟩ := k
  have hx := hx0.nz hn
  have kx := kx0.nz hn'
  obtain ⟨X, hX⟩ : ∃ X, val xs = X := ⟨_, rfl⟩
  obtain ⟨X', hX'⟩ : ∃ X, val xs' = X := ⟨_, rfl⟩
  obtain ⟨D, hD⟩ : ∃ D, rden ys = D := ⟨_, rfl⟩
  obtain ⟨D', hD'⟩ : ∃ D, rden ys' = D := ⟨_, rfl⟩
  rw [hX] at hx
  rw [hX'] at kx
  have HD := hide hD
  have HD' := hide hD'
  have o1 : 1 ≤ 4000 := by omega
  have o2 : 4000 ≤ 1048576 := by omega
  have o3 : 4000 + 4000 ≤ 8000 := by omega
  have o4 : 8000 ≤ 1048576 := by omega
  have o5 : 8000 ≤ 65536 := by omega
  have HR := hide (show sz (iv s (dg (X * D')) - iv t (dg (X' * D))) = r by rw [← hX, ← hX', ← hD, ← hD', cmp_value, ep, eq, hr])
  clear ep eq hD hD' hX hX' hx0 kx0 hr
  have hx_1 := hx.alloc (EQ s A n c B m d)
  have hy_1 := hy.alloc (EQ s A n c B m d)
  have kx_1 := kx.alloc (EQ s A n c B m d)
  have ky_1 := ky.alloc (EQ s A n c B m d)
  have ba_1 : Sq ((w).alloc (EQ s A n c B m d)) (w.heap.size) (.bool s) (.slice A n c) (.slice B m d) := by have h_ := Sq.new (w) (.bool s) (.slice A n c) (.slice B m d); exact h_
  have F1 := (Below.refl w.heap.size w).alloc (Nat.le_refl _) (EQ s A n c B m d)
  have hx_2 := hx_1.alloc (EQ t A' n' c' B' m' d')
  have hy_2 := hy_1.alloc (EQ t A' n' c' B' m' d')
  have kx_2 := kx_1.alloc (EQ t A' n' c' B' m' d')
  have ky_2 := ky_1.alloc (EQ t A' n' c' B' m' d')
  have ba_2 := ba_1.alloc (EQ t A' n' c' B' m' d')
  have bb_2 : Sq (((w).alloc (EQ s A n c B m d)).alloc (EQ t A' n' c' B' m' d')) (w.heap.size + 1) (.bool t) (.slice A' n' c') (.slice B' m' d') := by have h_ := Sq.new ((w).alloc (EQ s A n c B m d)) (.bool t) (.slice A' n' c') (.slice B' m' d'); simp only [World.size_alloc] at h_; exact h_
  have F2 := F1.alloc F1.size (EQ t A' n' c' B' m' d')
  go_enter Try.func39, Try.ntmps39
  go_wp2_with fail
  have hx_3 := hx_2.drew
  have hy_3 := hy_2.drew
  have kx_3 := kx_2.drew
  have ky_3 := ky_2.drew
  have ba_3 := ba_2.drew
  have bb_3 := bb_2.drew
  have F3 := F2.drew
  go_region_held3 (fun w' => w'.cell? ⟨w.heap.size, 0, none⟩ = some (.bool s) ∧ w'.cell? ⟨w.heap.size, 1, none⟩ = some (.slice A n c) ∧ w'.cell? ⟨w.heap.size, 2, none⟩ = some (.slice B m d) ∧ w'.cell? ⟨w.heap.size + 1, 0, none⟩ = some (.bool t) ∧ w'.cell? ⟨w.heap.size + 1, 1, none⟩ = some (.slice A' n' c') ∧ w'.cell? ⟨w.heap.size + 1, 2, none⟩ = some (.slice B' m' d'))
    (first
      | with_reducible exact ⟨ba_8.cell0, ba_8.cell1, ba_8.cell2, bb_8.cell0, bb_8.cell1, bb_8.cell2⟩
      | with_reducible exact ⟨ba_7.cell0, ba_7.cell1, ba_7.cell2, bb_7.cell0, bb_7.cell1, bb_7.cell2⟩
      | with_reducible exact ⟨ba_6.cell0, ba_6.cell1, ba_6.cell2, bb_6.cell0, bb_6.cell1, bb_6.cell2⟩
      | with_reducible exact ⟨ba_5.cell0, ba_5.cell1, ba_5.cell2, bb_5.cell0, bb_5.cell1, bb_5.cell2⟩
      | with_reducible exact ⟨ba_4.cell0, ba_4.cell1, ba_4.cell2, bb_4.cell0, bb_4.cell1, bb_4.cell2⟩
      | with_reducible exact ⟨ba_3.cell0, ba_3.cell1, ba_3.cell2, bb_3.cell0, bb_3.cell1, bb_3.cell2⟩
      | fail)
    (first
      | (go_at_call 57; (with_reducible refine (divisor_n _ _ _ _ _ _ _ ys' 4000 D' _ HD'.out ky_3 hm' o1 o2).mono ?_); rintro e w4 ⟨A4, n4, c4, rfl, b, b4⟩; have hx_4 := hx_3.below b4; have hy_4 := hy_3.below b4; have kx_4 := kx_3.below b4; have ky_4 := ky_3.below b4; have ba_4 := ba_3.below b4 ba_3.lt; have bb_4 := bb_3.below b4 bb_3.lt; have F4 := below_then F3 (Nat.le_refl _) b4)
      | (go_at_call 67; (with_reducible refine (multiple_n _ _ _ _ _ _ _ _ _ _ 4000 4000 8000 _ _ (X * D') _ rfl hx_4 b o3 o4).mono ?_); rintro e w5 ⟨A5, n5, c5, rfl, p1, b5⟩; have hx_5 := hx_4.below b5; have hy_5 := hy_4.below b5; have kx_5 := kx_4.below b5; have ky_5 := ky_4.below b5; have b_5 := b.below b5; have ba_5 := ba_4.below b5 ba_4.lt; have bb_5 := bb_4.below b5 bb_4.lt; have F5 := below_then F4 (Nat.le_refl _) b5)
      | (go_at_call 57; (with_reducible refine (divisor_n _ _ _ _ _ _ _ ys 4000 D _ HD.out hy_5 hm o1 o2).mono ?_); rintro e w6 ⟨A6, n6, c6, rfl, a, b6⟩; have hx_6 := hx_5.below b6; have hy_6 := hy_5.below b6; have kx_6 := kx_5.below b6; have ky_6 := ky_5.below b6; have b_6 := b_5.below b6; have p1_6 := p1.below b6; have ba_6 := ba_5.below b6 ba_5.lt; have bb_6 := bb_5.below b6 bb_5.lt; have F6 := below_then F5 (Nat.le_refl _) b6)
      | (go_at_call 67; (with_reducible refine (multiple_n _ _ _ _ _ _ _ _ _ _ 4000 4000 8000 _ _ (X' * D) _ rfl kx_6 a o3 o4).mono ?_); rintro e w7 ⟨A7, n7, c7, rfl, p2, b7⟩; have hx_7 := hx_6.below b7; have hy_7 := hy_6.below b7; have kx_7 := kx_6.below b7; have ky_7 := ky_6.below b7; have b_7 := b_6.below b7; have p1_7 := p1_6.below b7; have a_7 := a.below b7; have ba_7 := ba_6.below b7 ba_6.lt; have bb_7 := bb_6.below b7 bb_6.lt; have F7 := below_then F6 (Nat.le_refl _) b7)
      | (go_at_call 70; (with_reducible refine (cmp_int _ _ _ _ _ _ _ _ _ _ r _ HR.out (p1_7.iz s) (p2.iz t) (Nat.le_trans p1_7.le o4) (Nat.le_trans p2.le o4)).mono ?_); rintro e w8 ⟨rfl, b8⟩; have hx_8 := hx_7.below b8; have hy_8 := hy_7.below b8; have kx_8 := kx_7.below b8; have ky_8 := ky_7.below b8; have b_8 := b_7.below b8; have p1_8 := p1_7.below b8; have a_8 := a_7.below b8; have p2_8 := p2.below b8; have ba_8 := ba_7.below b8 ba_7.lt; have bb_8 := bb_7.below b8 bb_7.lt; have F8 := below_then F7 (Nat.le_refl _) b8)
      | fail)
  have ba_u8 := ba_8.cell0
  have ba_v8 := ba_8.cell1
  have ba_w8 := ba_8.cell2
  have bb_u8 := bb_8.cell0
  have bb_v8 := bb_8.cell1
  have bb_w8 := bb_8.cell2
  go_wp2
  go_ret
  exact ⟨rfl, F8⟩
end Go.Proofs.Ytabgniijlofapaa
