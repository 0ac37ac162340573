/-
  The program's Make, Frac, Mul, Div, Cmp.
-/
import Derived.Test.YtnddhohjfjlaiaaGreatDoorQ2
namespace Go.Proofs.YtnddhohjfjlaiaaGreatDoor
open Go.RowKit
set_option linter.unusedVariables false
set_option linter.unusedSimpArgs false

set_option maxHeartbeats 1000000 in
theorem mul_q (s t : Bool) (A B A' B' : Option Addr) (n c m d n' c' m' d' : Nat) (p q r : Rat) (w : World) (hr : p * q = r) (h : Iq w s A n c B m d p) (k : Iq w t A' n' c' B' m' d' q) (hn : n ≤ 4000) (hm : m ≤ 4000) (hn' : n' ≤ 4000) (hm' : m' ≤ 4000) :
    Calls Tryz.prog 28 #[.agg #[.bool s, .slice A n c, .slice B m d], .agg #[.bool t, .slice A' n' c', .slice B' m' d']] w (GQ w r) := by
  obtain ⟨xs, ys, hx0, hy, ep⟩ := h
  obtain ⟨xs', ys', kx0, ky, eq⟩ := k
  have hx := hx0.nz hn
  have kx := kx0.nz hn'
  obtain ⟨X, hX⟩ : ∃ X, val xs = X := ⟨_, rfl⟩
  obtain ⟨X', hX'⟩ : ∃ X, val xs' = X := ⟨_, rfl⟩
  obtain ⟨D, hD⟩ : ∃ D, rden ys = D := ⟨_, rfl⟩
  obtain ⟨D', hD'⟩ : ∃ D, rden ys' = D := ⟨_, rfl⟩
  rw [hX] at hx
  rw [hX'] at kx
  have HD := hide hD
  have HD' := hide hD'
  have o1 : 1 ≤ 4000 := by omega
  have o2 : 4000 ≤ 1048576 := by omega
  have o3 : 4000 + 4000 ≤ 8000 := by omega
  have o4 : 8000 ≤ 1048576 := by omega
  have o5 : 8000 ≤ 65536 := by omega
  have HQ := hide (show mkRat (iv (!s == t) (dg (X * X'))) (D * D') = r by rw [← hX, ← hX', iv_prod, ← hD, ← hD', ← hr, ← ep, ← eq, rv, rv, Rat.mkRat_mul_mkRat])
  have H0 : D * D' ≠ 0 := by rw [← hD, ← hD']; exact Nat.mul_ne_zero (rden_pos _) (rden_pos _)
  clear ep eq hD hD' hX hX' hx0 kx0 hr
  have hx_1 := hx.alloc (EQ s A n c B m d)
  have hy_1 := hy.alloc (EQ s A n c B m d)
  have kx_1 := kx.alloc (EQ s A n c B m d)
  have ky_1 := ky.alloc (EQ s A n c B m d)
  have ba_1 : Sq ((w).alloc (EQ s A n c B m d)) (w.heap.size) (.bool s) (.slice A n c) (.slice B m d) := by have h_ := Sq.new (w) (.bool s) (.slice A n c) (.slice B m d); exact h_
  have F1 := (Below.refl w.heap.size w).alloc (Nat.le_refl _) (EQ s A n c B m d)
  have hx_2 := hx_1.alloc (EQ t A' n' c' B' m' d')
  have hy_2 := hy_1.alloc (EQ t A' n' c' B' m' d')
  have kx_2 := kx_1.alloc (EQ t A' n' c' B' m' d')
  have ky_2 := ky_1.alloc (EQ t A' n' c' B' m' d')
  have ba_2 := ba_1.alloc (EQ t A' n' c' B' m' d')
  have bb_2 : Sq (((w).alloc (EQ s A n c B m d)).alloc (EQ t A' n' c' B' m' d')) (w.heap.size + 1) (.bool t) (.slice A' n' c') (.slice B' m' d') := by have h_ := Sq.new ((w).alloc (EQ s A n c B m d)) (.bool t) (.slice A' n' c') (.slice B' m' d'); simp only [World.size_alloc] at h_; exact h_
  have F2 := F1.alloc F1.size (EQ t A' n' c' B' m' d')
  have hx_3 := hx_2.alloc EQ0
  have hy_3 := hy_2.alloc EQ0
  have kx_3 := kx_2.alloc EQ0
  have ky_3 := ky_2.alloc EQ0
  have ba_3 := ba_2.alloc EQ0
  have bb_3 := bb_2.alloc EQ0
  have br_3 : Sq ((((w).alloc (EQ s A n c B m d)).alloc (EQ t A' n' c' B' m' d')).alloc EQ0) (w.heap.size + 2) (.bool false) (.slice none 0 0) (.slice none 0 0) := by have h_ := Sq.new (((w).alloc (EQ s A n c B m d)).alloc (EQ t A' n' c' B' m' d')) (.bool false) (.slice none 0 0) (.slice none 0 0); simp only [World.size_alloc] at h_; exact h_
  have F3 := F2.alloc F2.size EQ0
  go_enter Tryz.func28, Tryz.ntmps28
  go_wp2_with fail
  have hx_4 := hx_3.drew
  have hy_4 := hy_3.drew
  have kx_4 := kx_3.drew
  have ky_4 := ky_3.drew
  have ba_4 := ba_3.drew
  have bb_4 := bb_3.drew
  have br_4 := br_3.drew
  have F4 := F3.drew
  go_region_held3 (fun w' => w'.cell? ⟨w.heap.size, 0, none⟩ = some (.bool s) ∧ w'.cell? ⟨w.heap.size, 1, none⟩ = some (.slice A n c) ∧ w'.cell? ⟨w.heap.size, 2, none⟩ = some (.slice B m d) ∧ w'.cell? ⟨w.heap.size + 1, 0, none⟩ = some (.bool t) ∧ w'.cell? ⟨w.heap.size + 1, 1, none⟩ = some (.slice A' n' c') ∧ w'.cell? ⟨w.heap.size + 1, 2, none⟩ = some (.slice B' m' d'))
    (first
      | with_reducible exact ⟨ba_p.cell0, ba_p.cell1, ba_p.cell2, bb_p.cell0, bb_p.cell1, bb_p.cell2⟩
      | with_reducible exact ⟨ba_9.cell0, ba_9.cell1, ba_9.cell2, bb_9.cell0, bb_9.cell1, bb_9.cell2⟩
      | with_reducible exact ⟨ba_8.cell0, ba_8.cell1, ba_8.cell2, bb_8.cell0, bb_8.cell1, bb_8.cell2⟩
      | with_reducible exact ⟨ba_7.cell0, ba_7.cell1, ba_7.cell2, bb_7.cell0, bb_7.cell1, bb_7.cell2⟩
      | with_reducible exact ⟨ba_6.cell0, ba_6.cell1, ba_6.cell2, bb_6.cell0, bb_6.cell1, bb_6.cell2⟩
      | with_reducible exact ⟨ba_5.cell0, ba_5.cell1, ba_5.cell2, bb_5.cell0, bb_5.cell1, bb_5.cell2⟩
      | with_reducible exact ⟨ba_4.cell0, ba_4.cell1, ba_4.cell2, bb_4.cell0, bb_4.cell1, bb_4.cell2⟩
      | fail)
    (first
      | (go_at_call 45; (with_reducible refine (mul_n _ _ _ _ _ _ 4000 4000 8000 _ _ (X * X') _ rfl hx_4 kx_4 o3 o4).mono ?_); rintro e w5 ⟨A5, n5, c5, rfl, p1, b5⟩; have hx_5 := hx_4.below b5; have hy_5 := hy_4.below b5; have kx_5 := kx_4.below b5; have ky_5 := ky_4.below b5; have ba_5 := ba_4.below b5 ba_4.lt; have bb_5 := bb_4.below b5 bb_4.lt; have br_5 := br_4.below b5 br_4.lt; have F5 := below_then F4 (Nat.le_refl _) b5)
      | (go_at_call 42; (with_reducible refine (divisor_n _ _ _ _ _ _ _ ys 4000 D _ HD.out hy_5 hm o1 o2).mono ?_); rintro e w6 ⟨A6, n6, c6, rfl, a, b6⟩; have hx_6 := hx_5.below b6; have hy_6 := hy_5.below b6; have kx_6 := kx_5.below b6; have ky_6 := ky_5.below b6; have p1_6 := p1.below b6; have ba_6 := ba_5.below b6 ba_5.lt; have bb_6 := bb_5.below b6 bb_5.lt; have br_6 := br_5.below b6 br_5.lt; have F6 := below_then F5 (Nat.le_refl _) b6)
      | (go_at_call 42; (with_reducible refine (divisor_n _ _ _ _ _ _ _ ys' 4000 D' _ HD'.out ky_6 hm' o1 o2).mono ?_); rintro e w7 ⟨A7, n7, c7, rfl, b, b7⟩; have hx_7 := hx_6.below b7; have hy_7 := hy_6.below b7; have kx_7 := kx_6.below b7; have ky_7 := ky_6.below b7; have p1_7 := p1_6.below b7; have a_7 := a.below b7; have ba_7 := ba_6.below b7 ba_6.lt; have bb_7 := bb_6.below b7 bb_6.lt; have br_7 := br_6.below b7 br_6.lt; have F7 := below_then F6 (Nat.le_refl _) b7)
      | (go_at_call 45; (with_reducible refine (mul_n _ _ _ _ _ _ 4000 4000 8000 _ _ (D * D') _ rfl a_7 b o3 o4).mono ?_); rintro e w8 ⟨A8, n8, c8, rfl, p2, b8⟩; have hx_8 := hx_7.below b8; have hy_8 := hy_7.below b8; have kx_8 := kx_7.below b8; have ky_8 := ky_7.below b8; have p1_8 := p1_7.below b8; have a_8 := a_7.below b8; have b_8 := b.below b8; have ba_8 := ba_7.below b8 ba_7.lt; have bb_8 := bb_7.below b8 bb_7.lt; have br_8 := br_7.below b8 br_7.lt; have F8 := below_then F7 (Nat.le_refl _) b8)
      | (go_at_call 44; (with_reducible refine (quo_n _ _ _ _ _ _ _ _ _ _ _ r _ HQ.out H0 p1_8 p2 o5 o5).mono ?_); rintro e w9 ⟨s9, A9, n9, c9, B9, m9, d9, rfl, kk, b9⟩; have hx_9 := hx_8.below b9; have hy_9 := hy_8.below b9; have kx_9 := kx_8.below b9; have ky_9 := ky_8.below b9; have p1_9 := p1_8.below b9; have a_9 := a_8.below b9; have b_9 := b_8.below b9; have p2_9 := p2.below b9; have ba_9 := ba_8.below b9 ba_8.lt; have bb_9 := bb_8.below b9 bb_8.lt; have br_9 := br_8.below b9 br_8.lt; have F9 := below_then F8 (Nat.le_refl _) b9; have br_g0 := br_9.cell0; have br_h0 := br_9.frozen 0; have br_g1 := br_9.cell1; have br_h1 := br_9.frozen 1; have br_g2 := br_9.cell2; have br_h2 := br_9.frozen 2; have ba_p := ba_9.past (g' := w.heap.size + 2) (u0 := .bool s9) (u1 := .slice A9 n9 c9) (u2 := .slice B9 m9 d9) (by omega); have bb_p := bb_9.past (g' := w.heap.size + 2) (u0 := .bool s9) (u1 := .slice A9 n9 c9) (u2 := .slice B9 m9 d9) (by omega))
      | fail)
  go_wp2_with fail
  refine bodyPost_ret (v := .agg #[.bool s9, .slice A9 n9 c9, .slice B9 m9 d9]) (by simp [results, Tryz.results28, go_sem, (br_9.set0 (.bool s9)).cell0, ((br_9.set0 (.bool s9)).set1 (.slice A9 n9 c9)).cell1, (((br_9.set0 (.bool s9)).set1 (.slice A9 n9 c9)).set2 (.slice B9 m9 d9)).cell2]) rfl (gq_end F9 (by omega) br_9 kk)
theorem mk_sign (z : Int) (d : Nat) (hd : d ≠ 0) : sz (mkRat z d).num = sz z := by
  rw [Rat.num_mkRat, if_neg hd]
  have h0 : 0 < d.gcd z.natAbs := Nat.gcd_pos_of_pos_left _ (by omega)
  have h1 : ((d.gcd z.natAbs : Nat) : Int) ∣ z := Int.ofNat_dvd_left.2 (Nat.gcd_dvd_right _ _)
  generalize d.gcd z.natAbs = g at h0 h1
  obtain ⟨k, hk⟩ := h1
  rw [hk, Int.mul_ediv_cancel_left _ (by omega)]
  exact (sz_mul' (g : Int) k (by omega)).symm
theorem sub_value (s t : Bool) (xs ys xs' ys' : List Nat) : mkRat (iv s xs * (rden ys' : Int) - iv t xs' * (rden ys : Int)) (rden ys * rden ys') = rv s xs ys - rv t xs' ys' := by
  rw [rv, rv, Rat.sub_eq_add_neg, Rat.neg_mkRat, Rat.mkRat_add_mkRat _ _ (rden_pos _) (rden_pos _), Int.neg_mul, Int.sub_eq_add_neg]
theorem cmp_value (s t : Bool) (xs ys xs' ys' : List Nat) : sz (iv s (dg (val xs * rden ys')) - iv t (dg (val xs' * rden ys))) = sz (rv s xs ys - rv t xs' ys').num := by
  rw [← sub_value, mk_sign _ _ (Nat.mul_ne_zero (rden_pos _) (rden_pos _)), iv_times s _ _ xs rfl, iv_times t _ _ xs' rfl]
set_option maxHeartbeats 1000000 in
theorem cmp_q (s t : Bool) (A B A' B' : Option Addr) (n c m d n' c' m' d' : Nat) (p q : Rat) (r : Int) (w : World) (hr : sz (p - q).num = r) (h : Iq w s A n c B m d p) (k : Iq w t A' n' c' B' m' d' q) (hn : n ≤ 4000) (hm : m ≤ 4000) (hn' : n' ≤ 4000) (hm' : m' ≤ 4000) :
    Calls Tryz.prog 26 #[.agg #[.bool s, .slice A n c, .slice B m d], .agg #[.bool t, .slice A' n' c', .slice B' m' d']] w (Asks w (.int .i64 r)) := by
  obtain ⟨xs, ys, hx0, hy, ep⟩ := h
  obtain ⟨xs', ys', kx0, ky, eq⟩ := k
  have hx := hx0.nz hn
  have kx := kx0.nz hn'
  obtain ⟨X, hX⟩ : ∃ X, val xs = X := ⟨_, rfl⟩
  obtain ⟨X', hX'⟩ : ∃ X, val xs' = X := ⟨_, rfl⟩
  obtain ⟨D, hD⟩ : ∃ D, rden ys = D := ⟨_, rfl⟩
  obtain ⟨D', hD'⟩ : ∃ D, rden ys' = D := ⟨_, rfl⟩
  rw [hX] at hx
  rw [hX'] at kx
  have HD := hide hD
  have HD' := hide hD'
  have o1 : 1 ≤ 4000 := by omega
  have o2 : 4000 ≤ 1048576 := by omega
  have o3 : 4000 + 4000 ≤ 8000 := by omega
  have o4 : 8000 ≤ 1048576 := by omega
  have o5 : 8000 ≤ 65536 := by omega
  have HR := hide (show sz (iv s (dg (X * D')) - iv t (dg (X' * D))) = r by rw [← hX, ← hX', ← hD, ← hD', cmp_value, ep, eq, hr])
  clear ep eq hD hD' hX hX' hx0 kx0 hr
  have hx_1 := hx.alloc (EQ s A n c B m d)
  have hy_1 := hy.alloc (EQ s A n c B m d)
  have kx_1 := kx.alloc (EQ s A n c B m d)
  have ky_1 := ky.alloc (EQ s A n c B m d)
  have ba_1 : Sq ((w).alloc (EQ s A n c B m d)) (w.heap.size) (.bool s) (.slice A n c) (.slice B m d) := by have h_ := Sq.new (w) (.bool s) (.slice A n c) (.slice B m d); exact h_
  have F1 := (Below.refl w.heap.size w).alloc (Nat.le_refl _) (EQ s A n c B m d)
  have hx_2 := hx_1.alloc (EQ t A' n' c' B' m' d')
  have hy_2 := hy_1.alloc (EQ t A' n' c' B' m' d')
  have kx_2 := kx_1.alloc (EQ t A' n' c' B' m' d')
  have ky_2 := ky_1.alloc (EQ t A' n' c' B' m' d')
  have ba_2 := ba_1.alloc (EQ t A' n' c' B' m' d')
  have bb_2 : Sq (((w).alloc (EQ s A n c B m d)).alloc (EQ t A' n' c' B' m' d')) (w.heap.size + 1) (.bool t) (.slice A' n' c') (.slice B' m' d') := by have h_ := Sq.new ((w).alloc (EQ s A n c B m d)) (.bool t) (.slice A' n' c') (.slice B' m' d'); simp only [World.size_alloc] at h_; exact h_
  have F2 := F1.alloc F1.size (EQ t A' n' c' B' m' d')
  go_enter Tryz.func26, Tryz.ntmps26
  go_wp2_with fail
  have hx_3 := hx_2.drew
  have hy_3 := hy_2.drew
  have kx_3 := kx_2.drew
  have ky_3 := ky_2.drew
  have ba_3 := ba_2.drew
  have bb_3 := bb_2.drew
  have F3 := F2.drew
  go_region_held3 (fun w' => w'.cell? ⟨w.heap.size, 0, none⟩ = some (.bool s) ∧ w'.cell? ⟨w.heap.size, 1, none⟩ = some (.slice A n c) ∧ w'.cell? ⟨w.heap.size, 2, none⟩ = some (.slice B m d) ∧ w'.cell? ⟨w.heap.size + 1, 0, none⟩ = some (.bool t) ∧ w'.cell? ⟨w.heap.size + 1, 1, none⟩ = some (.slice A' n' c') ∧ w'.cell? ⟨w.heap.size + 1, 2, none⟩ = some (.slice B' m' d'))
    (first
      | with_reducible exact ⟨ba_8.cell0, ba_8.cell1, ba_8.cell2, bb_8.cell0, bb_8.cell1, bb_8.cell2⟩
      | with_reducible exact ⟨ba_7.cell0, ba_7.cell1, ba_7.cell2, bb_7.cell0, bb_7.cell1, bb_7.cell2⟩
      | with_reducible exact ⟨ba_6.cell0, ba_6.cell1, ba_6.cell2, bb_6.cell0, bb_6.cell1, bb_6.cell2⟩
      | with_reducible exact ⟨ba_5.cell0, ba_5.cell1, ba_5.cell2, bb_5.cell0, bb_5.cell1, bb_5.cell2⟩
      | with_reducible exact ⟨ba_4.cell0, ba_4.cell1, ba_4.cell2, bb_4.cell0, bb_4.cell1, bb_4.cell2⟩
      | with_reducible exact ⟨ba_3.cell0, ba_3.cell1, ba_3.cell2, bb_3.cell0, bb_3.cell1, bb_3.cell2⟩
      | fail)
    (first
      | (go_at_call 42; (with_reducible refine (divisor_n _ _ _ _ _ _ _ ys' 4000 D' _ HD'.out ky_3 hm' o1 o2).mono ?_); rintro e w4 ⟨A4, n4, c4, rfl, b, b4⟩; have hx_4 := hx_3.below b4; have hy_4 := hy_3.below b4; have kx_4 := kx_3.below b4; have ky_4 := ky_3.below b4; have ba_4 := ba_3.below b4 ba_3.lt; have bb_4 := bb_3.below b4 bb_3.lt; have F4 := below_then F3 (Nat.le_refl _) b4)
      | (go_at_call 41; (with_reducible refine (multiple_n _ _ _ _ _ _ _ _ _ _ 4000 4000 8000 _ _ (X * D') _ rfl hx_4 b o3 o4).mono ?_); rintro e w5 ⟨A5, n5, c5, rfl, p1, b5⟩; have hx_5 := hx_4.below b5; have hy_5 := hy_4.below b5; have kx_5 := kx_4.below b5; have ky_5 := ky_4.below b5; have b_5 := b.below b5; have ba_5 := ba_4.below b5 ba_4.lt; have bb_5 := bb_4.below b5 bb_4.lt; have F5 := below_then F4 (Nat.le_refl _) b5)
      | (go_at_call 42; (with_reducible refine (divisor_n _ _ _ _ _ _ _ ys 4000 D _ HD.out hy_5 hm o1 o2).mono ?_); rintro e w6 ⟨A6, n6, c6, rfl, a, b6⟩; have hx_6 := hx_5.below b6; have hy_6 := hy_5.below b6; have kx_6 := kx_5.below b6; have ky_6 := ky_5.below b6; have b_6 := b_5.below b6; have p1_6 := p1.below b6; have ba_6 := ba_5.below b6 ba_5.lt; have bb_6 := bb_5.below b6 bb_5.lt; have F6 := below_then F5 (Nat.le_refl _) b6)
      | (go_at_call 41; (with_reducible refine (multiple_n _ _ _ _ _ _ _ _ _ _ 4000 4000 8000 _ _ (X' * D) _ rfl kx_6 a o3 o4).mono ?_); rintro e w7 ⟨A7, n7, c7, rfl, p2, b7⟩; have hx_7 := hx_6.below b7; have hy_7 := hy_6.below b7; have kx_7 := kx_6.below b7; have ky_7 := ky_6.below b7; have b_7 := b_6.below b7; have p1_7 := p1_6.below b7; have a_7 := a.below b7; have ba_7 := ba_6.below b7 ba_6.lt; have bb_7 := bb_6.below b7 bb_6.lt; have F7 := below_then F6 (Nat.le_refl _) b7)
      | (go_at_call 40; (with_reducible refine (cmp_int _ _ _ _ _ _ _ _ _ _ r _ HR.out (p1_7.iz s) (p2.iz t) (Nat.le_trans p1_7.le o4) (Nat.le_trans p2.le o4)).mono ?_); rintro e w8 ⟨rfl, b8⟩; have hx_8 := hx_7.below b8; have hy_8 := hy_7.below b8; have kx_8 := kx_7.below b8; have ky_8 := ky_7.below b8; have b_8 := b_7.below b8; have p1_8 := p1_7.below b8; have a_8 := a_7.below b8; have p2_8 := p2.below b8; have ba_8 := ba_7.below b8 ba_7.lt; have bb_8 := bb_7.below b8 bb_7.lt; have F8 := below_then F7 (Nat.le_refl _) b8)
      | fail)
  have ba_u8 := ba_8.cell0
  have ba_v8 := ba_8.cell1
  have ba_w8 := ba_8.cell2
  have bb_u8 := bb_8.cell0
  have bb_v8 := bb_8.cell1
  have bb_w8 := bb_8.cell2
  go_wp2
  go_ret
  exact ⟨rfl, F8⟩
end Go.Proofs.YtnddhohjfjlaiaaGreatDoor
