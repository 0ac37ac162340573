/-
  The program's Make, Frac, Mul, Div, Cmp.
-/
import Derived.Test.YtjpchbcenbjibaaGreatDoorQ2
namespace Go.Proofs.YtjpchbcenbjibaaGreatDoor
open Go.RowKit
set_option linter.unusedVariables false
set_option linter.unusedSimpArgs false

theorem make_q0 (s t : Bool) (A B : Option Addr) (n m c d : Nat) (y : Int) (w : World) (h0 : y = 0) (k : Iz w t B m d y) (hm : m ≤ 16384) :
    Calls Tryz.prog 66 #[.agg #[.bool s, .slice A n c], .agg #[.bool t, .slice B m d]] w (GQE w 0 3) := by
  have HS := hide (show sz y = 0 by rw [h0]; rfl)
  have hm2 : m ≤ 1048576 := by omega
  clear h0
  have k_1 := k.alloc (EI s A n c)
  have ba_1 : Sb ((w).alloc (EI s A n c)) (w.heap.size) (.bool s) (.slice A n c) := by have h_ := Sb.new (w) (.bool s) (.slice A n c); exact h_
  have F1 := (Below.refl w.heap.size w).alloc (Nat.le_refl _) (EI s A n c)
  have k_2 := k_1.alloc (EI t B m d)
  have ba_2 := ba_1.alloc (EI t B m d)
  have bb_2 : Sb (((w).alloc (EI s A n c)).alloc (EI t B m d)) (w.heap.size + 1) (.bool t) (.slice B m d) := by have h_ := Sb.new ((w).alloc (EI s A n c)) (.bool t) (.slice B m d); simp only [World.size_alloc] at h_; exact h_
  have F2 := F1.alloc F1.size (EI t B m d)
  have k_3 := k_2.alloc EQ0
  have ba_3 := ba_2.alloc EQ0
  have bb_3 := bb_2.alloc EQ0
  have br_3 : Sq ((((w).alloc (EI s A n c)).alloc (EI t B m d)).alloc EQ0) (w.heap.size + 2) (.bool false) (.slice none 0 0) (.slice none 0 0) := by have h_ := Sq.new (((w).alloc (EI s A n c)).alloc (EI t B m d)) (.bool false) (.slice none 0 0) (.slice none 0 0); simp only [World.size_alloc] at h_; exact h_
  have F3 := F2.alloc F2.size EQ0
  go_enter Tryz.func66, Tryz.ntmps66
  go_wp2_with fail
  refine (sign_int _ _ _ _ _ _ _ HS.out k_3 hm2).mono ?_
  rintro e w4 ⟨rfl, b4⟩
  have k_4 := k_3.below b4
  have ba_4 := ba_3.below b4 ba_3.lt
  have bb_4 := bb_3.below b4 bb_3.lt
  have br_4 := br_3.below b4 br_3.lt
  have F4 := below_then F3 (Nat.le_refl _) b4
  have ba_u4 := ba_4.cell0
  have ba_v4 := ba_4.cell1
  have bb_u4 := bb_4.cell0
  have bb_v4 := bb_4.cell1
  have br_u4 := br_4.cell0
  have br_v4 := br_4.cell1
  have br_w4 := br_4.cell2
  have br_f04 := br_4.frozen 0
  have br_f14 := br_4.frozen 1
  have br_f24 := br_4.frozen 2
  go_wp2_with fail
  refine bodyPost_ret (v := .tuple #[.agg #[.bool false, .slice none 0 0, .slice none 0 0], .int .i64 3]) (by simp [results, Tryz.results66, go_sem, (br_4.set0 (.bool false)).cell0, ((br_4.set0 (.bool false)).set1 (.slice none 0 0)).cell1, (((br_4.set0 (.bool false)).set1 (.slice none 0 0)).set2 (.slice none 0 0)).cell2]) rfl (gqe_end 3 F4 (by omega) br_4 (cq_zero _))
theorem make_q (s t : Bool) (A B : Option Addr) (n m c d : Nat) (z y : Int) (q : Rat) (w : World) (hq : (z : Rat) / (y : Rat) = q) (h0 : y ≠ 0) (h : Iz w s A n c z) (k : Iz w t B m d y) (hn : n ≤ 16384) (hm : m ≤ 16384) :
    Calls Tryz.prog 66 #[.agg #[.bool s, .slice A n c], .agg #[.bool t, .slice B m d]] w (GQE w q 0) := by
  obtain ⟨r, hr⟩ : ∃ r, sz y = r := ⟨_, rfl⟩
  have hr0 : (r == 0) = false := by rw [← hr]; unfold sz; rw [if_neg h0]; split <;> rfl
  have HR := hide hr
  have hm2 : m ≤ 1048576 := by omega
  obtain ⟨xs, hx0, ex⟩ := h
  obtain ⟨ys, hy0, ey⟩ := id k
  have HQ := hide (show mkRat (iv (!s == t) (dg (val xs))) (val ys) = q by rw [iv_dg, mk_div, ex, ey, hq])
  have H0 : val ys ≠ 0 := by have := iv_abs t ys; rw [ey] at this; omega
  have hx := hx0.nz hn
  have hy := hy0.nz hm
  have hK : 16384 ≤ 1048576 := by omega
  have hk : 16384 ≤ 65536 := by omega
  clear hr ex ey h0 hq hx0 hy0
  have k_1 := k.alloc (EI s A n c)
  have hx_1 := hx.alloc (EI s A n c)
  have hy_1 := hy.alloc (EI s A n c)
  have ba_1 : Sb ((w).alloc (EI s A n c)) (w.heap.size) (.bool s) (.slice A n c) := by have h_ := Sb.new (w) (.bool s) (.slice A n c); exact h_
  have F1 := (Below.refl w.heap.size w).alloc (Nat.le_refl _) (EI s A n c)
  have k_2 := k_1.alloc (EI t B m d)
  have hx_2 := hx_1.alloc (EI t B m d)
  have hy_2 := hy_1.alloc (EI t B m d)
  have ba_2 := ba_1.alloc (EI t B m d)
  have bb_2 : Sb (((w).alloc (EI s A n c)).alloc (EI t B m d)) (w.heap.size + 1) (.bool t) (.slice B m d) := by have h_ := Sb.new ((w).alloc (EI s A n c)) (.bool t) (.slice B m d); simp only [World.size_alloc] at h_; exact h_
  have F2 := F1.alloc F1.size (EI t B m d)
  have k_3 := k_2.alloc EQ0
  have hx_3 := hx_2.alloc EQ0
  have hy_3 := hy_2.alloc EQ0
  have ba_3 := ba_2.alloc EQ0
  have bb_3 := bb_2.alloc EQ0
  have br_3 : Sq ((((w).alloc (EI s A n c)).alloc (EI t B m d)).alloc EQ0) (w.heap.size + 2) (.bool false) (.slice none 0 0) (.slice none 0 0) := by have h_ := Sq.new (((w).alloc (EI s A n c)).alloc (EI t B m d)) (.bool false) (.slice none 0 0) (.slice none 0 0); simp only [World.size_alloc] at h_; exact h_
  have F3 := F2.alloc F2.size EQ0
  go_enter Tryz.func66, Tryz.ntmps66
  go_wp2_with fail
  refine (sign_int _ _ _ _ _ _ _ HR.out k_3 hm2).mono ?_
  rintro e w4 ⟨rfl, b4⟩
  have k_4 := k_3.below b4
  have hx_4 := hx_3.below b4
  have hy_4 := hy_3.below b4
  have ba_4 := ba_3.below b4 ba_3.lt
  have bb_4 := bb_3.below b4 bb_3.lt
  have br_4 := br_3.below b4 br_3.lt
  have F4 := below_then F3 (Nat.le_refl _) b4
  have ba_u4 := ba_4.cell0
  have ba_v4 := ba_4.cell1
  have bb_u4 := bb_4.cell0
  have bb_v4 := bb_4.cell1
  have br_u4 := br_4.cell0
  have br_v4 := br_4.cell1
  have br_w4 := br_4.cell2
  go_wp2_with fail
  have hx_5 := hx_4.drew
  have hy_5 := hy_4.drew
  have ba_5 := ba_4.drew
  have bb_5 := bb_4.drew
  have br_5 := br_4.drew
  have F5 := F4.drew
  go_region_held3 (fun w' => w'.cell? ⟨w.heap.size, 0, none⟩ = some (.bool s) ∧ w'.cell? ⟨w.heap.size, 1, none⟩ = some (.slice A n c) ∧ w'.cell? ⟨w.heap.size + 1, 0, none⟩ = some (.bool t) ∧ w'.cell? ⟨w.heap.size + 1, 1, none⟩ = some (.slice B m d))
    (first
      | with_reducible exact ⟨ba_p.cell0, ba_p.cell1, bb_p.cell0, bb_p.cell1⟩
      | with_reducible exact ⟨ba_8.cell0, ba_8.cell1, bb_8.cell0, bb_8.cell1⟩
      | with_reducible exact ⟨ba_7.cell0, ba_7.cell1, bb_7.cell0, bb_7.cell1⟩
      | with_reducible exact ⟨ba_6.cell0, ba_6.cell1, bb_6.cell0, bb_6.cell1⟩
      | with_reducible exact ⟨ba_5.cell0, ba_5.cell1, bb_5.cell0, bb_5.cell1⟩
      | fail)
    (first
      | (go_at_call 74; (with_reducible refine (make_n _ _ _ 16384 _ _ hx_5 hK).mono ?_); rintro e w6 ⟨A6, n6, c6, rfl, a, b6⟩; have hx_6 := hx_5.below b6; have hy_6 := hy_5.below b6; have ba_6 := ba_5.below b6 ba_5.lt; have bb_6 := bb_5.below b6 bb_5.lt; have br_6 := br_5.below b6 br_5.lt; have F6 := below_then F5 (Nat.le_refl _) b6)
      | (go_at_call 74; (with_reducible refine (make_n _ _ _ 16384 _ _ hy_6 hK).mono ?_); rintro e w7 ⟨A7, n7, c7, rfl, b, b7⟩; have hx_7 := hx_6.below b7; have hy_7 := hy_6.below b7; have a_7 := a.below b7; have ba_7 := ba_6.below b7 ba_6.lt; have bb_7 := bb_6.below b7 bb_6.lt; have br_7 := br_6.below b7 br_6.lt; have F7 := below_then F6 (Nat.le_refl _) b7)
      | (go_at_call 73; (with_reducible refine (quo_n _ _ _ _ _ _ _ _ _ _ _ q _ HQ.out H0 a_7 b hk hk).mono ?_); rintro e w8 ⟨s8, A8, n8, c8, B8, m8, d8, rfl, o, b8⟩; have hx_8 := hx_7.below b8; have hy_8 := hy_7.below b8; have a_8 := a_7.below b8; have b_8 := b.below b8; have ba_8 := ba_7.below b8 ba_7.lt; have bb_8 := bb_7.below b8 bb_7.lt; have br_8 := br_7.below b8 br_7.lt; have F8 := below_then F7 (Nat.le_refl _) b8; have br_g0 := br_8.cell0; have br_h0 := br_8.frozen 0; have br_g1 := br_8.cell1; have br_h1 := br_8.frozen 1; have br_g2 := br_8.cell2; have br_h2 := br_8.frozen 2; have ba_p := ba_8.pastQ (g' := w.heap.size + 2) (u0 := .bool s8) (u1 := .slice A8 n8 c8) (u2 := .slice B8 m8 d8) (by omega); have bb_p := bb_8.pastQ (g' := w.heap.size + 2) (u0 := .bool s8) (u1 := .slice A8 n8 c8) (u2 := .slice B8 m8 d8) (by omega))
      | fail)
  go_wp2_with fail
  refine bodyPost_ret (v := .tuple #[.agg #[.bool s8, .slice A8 n8 c8, .slice B8 m8 d8], .int .i64 0]) (by simp [results, Tryz.results66, go_sem, (br_8.set0 (.bool s8)).cell0, ((br_8.set0 (.bool s8)).set1 (.slice A8 n8 c8)).cell1, (((br_8.set0 (.bool s8)).set1 (.slice A8 n8 c8)).set2 (.slice B8 m8 d8)).cell2]) rfl (gqe_end 0 F8 (by omega) br_8 o)
theorem mk_sign (z : Int) (d : Nat) (hd : d ≠ 0) : sz (mkRat z d).num = sz z := by
  rw [Rat.num_mkRat, if_neg hd]
  have h0 : 0 < d.gcd z.natAbs := Nat.gcd_pos_of_pos_left _ (by omega)
  have h1 : ((d.gcd z.natAbs : Nat) : Int) ∣ z := Int.ofNat_dvd_left.2 (Nat.gcd_dvd_right _ _)
  generalize d.gcd z.natAbs = g at h0 h1
  obtain ⟨k, hk⟩ := h1
  rw [hk, Int.mul_ediv_cancel_left _ (by omega)]
  exact (sz_mul' (g : Int) k (by omega)).symm
theorem sub_value (s t : Bool) (xs ys xs' ys' : List Nat) : mkRat (iv s xs * (rden ys' : Int) - iv t xs' * (rden ys : Int)) (rden ys * rden ys') = rv s xs ys - rv t xs' ys' := by
  rw [rv, rv, Rat.sub_eq_add_neg, Rat.neg_mkRat, Rat.mkRat_add_mkRat _ _ (rden_pos _) (rden_pos _), Int.neg_mul, Int.sub_eq_add_neg]
theorem cmp_value (s t : Bool) (xs ys xs' ys' : List Nat) : sz (iv s (dg (val xs * rden ys')) - iv t (dg (val xs' * rden ys))) = sz (rv s xs ys - rv t xs' ys').num := by
  rw [← sub_value, mk_sign _ _ (Nat.mul_ne_zero (rden_pos _) (rden_pos _)), iv_times s _ _ xs rfl, iv_times t _ _ xs' rfl]
end Go.Proofs.YtjpchbcenbjibaaGreatDoor
