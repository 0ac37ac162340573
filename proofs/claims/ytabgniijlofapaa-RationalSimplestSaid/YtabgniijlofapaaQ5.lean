/-
  The program's Floor.
-/
import Derived.Test.YtabgniijlofapaaQ3
import Derived.Test.YtabgniijlofapaaM6
import Derived.Deep.DeepCutAuto
import Derived.Deep.CutBlock
namespace Go.Proofs.Ytabgniijlofapaa
open Go.RowKit
set_option linter.unusedVariables false
set_option linter.unusedSimpArgs false

theorem floor_mk (z : Int) (d : Nat) (hd : d ≠ 0) : (mkRat z d).num / (mkRat z d).den = z / d := by
  rw [Rat.num_mkRat, Rat.den_mkRat, if_neg hd, if_neg hd]
  have h0 : 0 < d.gcd z.natAbs := Nat.gcd_pos_of_pos_left _ (by omega)
  have h1 : ((d.gcd z.natAbs : Nat) : Int) ∣ z := Int.ofNat_dvd_left.2 (Nat.gcd_dvd_right _ _)
  have h2 : d.gcd z.natAbs ∣ d := Nat.gcd_dvd_left _ _
  generalize d.gcd z.natAbs = g at h0 h1 h2
  obtain ⟨k, rfl⟩ := h1
  obtain ⟨e, rfl⟩ := h2
  rw [Int.mul_ediv_cancel_left _ (by omega), Nat.mul_div_cancel_left _ h0, Int.natCast_mul, Int.mul_ediv_mul_of_pos _ _ (by omega)]
set_option maxRecDepth 50000 in
set_option maxHeartbeats 2000000 in
theorem floor_q (s : Bool) (A : Option Addr) (n c : Nat) (B : Option Addr) (m d : Nat) (q : Rat) (z : Int) (w : World) (hz : qfl q = z) (h : Iq w s A n c B m d q) (hn : n ≤ 4000) (hm : m ≤ 4000) :
    Calls Try.prog 45 #[.agg #[.bool s, .slice A n c, .slice B m d]] w (GI w z) := by
  obtain ⟨xs, ys, hx0, hy, hq⟩ := h
  have hx : Iz w s A n c (iv s xs) := ⟨xs, hx0, rfl⟩
  obtain ⟨D, hD⟩ : ∃ D, rden ys = D := ⟨_, rfl⟩
  obtain ⟨R, hR⟩ : ∃ R, iv s xs % (D : Int) = R := ⟨_, rfl⟩
  have HD := hide hD
  have HR := hide hR
  have HZ := hide (show iv s xs / (D : Int) = z by rw [← hz, ← hq, ← hD, rv, qfl, floor_mk _ _ (rden_pos _)])
  have h0 : (D : Int) ≠ 0 := by have := rden_pos ys; omega
  have o1 : 1 ≤ 4000 := by omega
  have o2 : 4000 ≤ 1048576 := by omega
  have o3 : 4000 ≤ 65536 := by omega
  have o4 : n ≤ 65536 := by omega
  have HDD := hide (show ∀ (w : World) (A : Option Addr) (n c : Nat), Nz w A n c 4000 D → Iz w false A n c (D : Int) ∧ n ≤ 65536 from fun w A n c hh => ⟨by obtain ⟨h1, xs, h2, h3⟩ := hh; exact ⟨xs, h2, by rw [iv, h3]; rfl⟩, Nat.le_trans hh.1 o3⟩)
  clear hD hR hz hq hx0
  have hx_1 := hx.alloc (EQ s A n c B m d)
  have hy_1 := hy.alloc (EQ s A n c B m d)
  have bx_1 : Sq ((w).alloc (EQ s A n c B m d)) (w.heap.size) (.bool s) (.slice A n c) (.slice B m d) := by have h_ := Sq.new (w) (.bool s) (.slice A n c) (.slice B m d); exact h_
  have F1 := (Below.refl w.heap.size w).alloc (Nat.le_refl _) (EQ s A n c B m d)
  have hx_2 := hx_1.alloc E0
  have hy_2 := hy_1.alloc E0
  have bx_2 := bx_1.alloc E0
  have br_2 : Sb (((w).alloc (EQ s A n c B m d)).alloc E0) (w.heap.size + 1) (.bool false) (.slice none 0 0) := by have h_ := Sb.new ((w).alloc (EQ s A n c B m d)) (.bool false) (.slice none 0 0); simp only [World.size_alloc] at h_; exact h_
  have F2 := F1.alloc F1.size E0
  go_enter Try.func45, Try.ntmps45
  go_upto_region 1 with fail
  go_cut [3] (fun sx wy => ∃ (W' : World) (gx : Nat) (s' : Bool) (A' : Option Addr) (n' c' : Nat), W' = wy ∧ sx = .pointer (some ⟨gx, 0, none⟩) ∧ Sb W' gx (.bool s') (.slice A' n' c') ∧ Sb W' (w.heap.size + 1) (.bool false) (.slice none 0 0) ∧ Cz W' s' A' n' c' z ∧ Below w.heap.size w W')
  case first =>
    have hx_3 := hx_2.drew
    have hy_3 := hy_2.drew
    have bx_3 := bx_2.drew
    have br_3 := br_2.drew
    have F3 := F2.drew
    have hx_y1 := hx_2.alloc E0
    have hy_y1 := hy_2.alloc E0
    have bx_y1 := bx_2.alloc E0
    have br_y1 := br_2.alloc E0
    have zq1 : Sb ((((w).alloc (EQ s A n c B m d)).alloc E0).alloc E0) (w.heap.size + 2) (.bool false) (.slice none 0 0) := by have h_ := Sb.new (((w).alloc (EQ s A n c B m d)).alloc E0) (.bool false) (.slice none 0 0); simp only [World.size_alloc] at h_; exact h_
    have F_y1 := F2.alloc F2.size E0
    have hx_d1 := hx_y1.drew
    have hy_d1 := hy_y1.drew
    have bx_d1 := bx_y1.drew
    have br_d1 := br_y1.drew
    have z1_d1 := zq1.drew
    have F_d1 := F_y1.drew
    have hx_y2 := hx_y1.alloc E0
    have hy_y2 := hy_y1.alloc E0
    have bx_y2 := bx_y1.alloc E0
    have br_y2 := br_y1.alloc E0
    have zq12 := zq1.alloc E0
    have zq2 : Sb (((((w).alloc (EQ s A n c B m d)).alloc E0).alloc E0).alloc E0) (w.heap.size + 3) (.bool false) (.slice none 0 0) := by have h_ := Sb.new ((((w).alloc (EQ s A n c B m d)).alloc E0).alloc E0) (.bool false) (.slice none 0 0); simp only [World.size_alloc] at h_; exact h_
    have F_y2 := F_y1.alloc F_y1.size E0
    have hx_d2 := hx_y2.drew
    have hy_d2 := hy_y2.drew
    have bx_d2 := bx_y2.drew
    have br_d2 := br_y2.drew
    have z1_d2 := zq12.drew
    have z2_d2 := zq2.drew
    have F_d2 := F_y2.drew
    have lz1_bx : w.heap.size ≠ w.heap.size + 2 := by omega
    have ly1_bx := Ne.symm lz1_bx
    have lz1_br : w.heap.size + 1 ≠ w.heap.size + 2 := by omega
    have ly1_br := Ne.symm lz1_br
    have lz2_bx : w.heap.size ≠ w.heap.size + 3 := by omega
    have ly2_bx := Ne.symm lz2_bx
    have lz2_br : w.heap.size + 1 ≠ w.heap.size + 3 := by omega
    have ly2_br := Ne.symm lz2_br
    have gl1 : w.heap.size ≤ w.heap.size + 2 := by omega
    have gl2 : w.heap.size ≤ w.heap.size + 3 := by omega
    have lzz1_2 : w.heap.size + 2 ≠ w.heap.size + 3 := by omega
    have lyy1_2 := Ne.symm lzz1_2
    go_region_held3 (fun w' => w'.cell? ⟨w.heap.size, 0, none⟩ = some (.bool s) ∧ w'.cell? ⟨w.heap.size, 1, none⟩ = some (.slice A n c) ∧ w'.cell? ⟨w.heap.size, 2, none⟩ = some (.slice B m d))
      (first
        | with_reducible exact ⟨((bx_6.alloc E0).alloc E0).cell0, ((bx_6.alloc E0).alloc E0).cell1, ((bx_6.alloc E0).alloc E0).cell2⟩
        | with_reducible exact ⟨(bx_6.alloc E0).cell0, (bx_6.alloc E0).cell1, (bx_6.alloc E0).cell2⟩
        | with_reducible exact ⟨bx_6.cell0, bx_6.cell1, bx_6.cell2⟩
        | with_reducible exact ⟨((bx_5.alloc E0).alloc E0).cell0, ((bx_5.alloc E0).alloc E0).cell1, ((bx_5.alloc E0).alloc E0).cell2⟩
        | with_reducible exact ⟨(bx_5.alloc E0).cell0, (bx_5.alloc E0).cell1, (bx_5.alloc E0).cell2⟩
        | with_reducible exact ⟨bx_5.cell0, bx_5.cell1, bx_5.cell2⟩
        | with_reducible exact ⟨((bx_4.alloc E0).alloc E0).cell0, ((bx_4.alloc E0).alloc E0).cell1, ((bx_4.alloc E0).alloc E0).cell2⟩
        | with_reducible exact ⟨(bx_4.alloc E0).cell0, (bx_4.alloc E0).cell1, (bx_4.alloc E0).cell2⟩
        | with_reducible exact ⟨bx_4.cell0, bx_4.cell1, bx_4.cell2⟩
        | with_reducible exact ⟨bx_d2.cell0, bx_d2.cell1, bx_d2.cell2⟩
        | with_reducible exact ⟨bx_d1.cell0, bx_d1.cell1, bx_d1.cell2⟩
        | with_reducible exact ⟨bx_3.cell0, bx_3.cell1, bx_3.cell2⟩
        | go_keep
        | fail)
      (first
        | (go_at_call 61; (with_reducible refine (dividend_n _ _ _ _ _ _ _ _).mono ?_); rintro e w4 ⟨rfl, b4⟩; have hx_4 := hx_3.below b4; have hy_4 := hy_3.below b4; have bx_4 := bx_3.below b4 bx_3.lt; have br_4 := br_3.below b4 br_3.lt; have F4 := below_then F3 (Nat.le_refl _) b4)
        | (go_at_call 61; (with_reducible refine (dividend_n _ _ _ _ _ _ _ _).mono ?_); rintro e w4 ⟨rfl, b4⟩; have hx_4 := hx_d1.below b4; have hy_4 := hy_d1.below b4; have bx_4 := bx_d1.below b4 bx_d1.lt; have br_4 := br_d1.below b4 br_d1.lt; have z1_4 := z1_d1.below b4 z1_d1.lt; have F4 := below_then F_d1 (Nat.le_refl _) b4)
        | (go_at_call 61; (with_reducible refine (dividend_n _ _ _ _ _ _ _ _).mono ?_); rintro e w4 ⟨rfl, b4⟩; have hx_4 := hx_d2.below b4; have hy_4 := hy_d2.below b4; have bx_4 := bx_d2.below b4 bx_d2.lt; have br_4 := br_d2.below b4 br_d2.lt; have z1_4 := z1_d2.below b4 z1_d2.lt; have z2_4 := z2_d2.below b4 z2_d2.lt; have F4 := below_then F_d2 (Nat.le_refl _) b4)
        | (go_at_call 57; (with_reducible refine (divisor_n _ _ _ _ _ _ _ ys 4000 D _ HD.out hy_4 hm o1 o2).mono ?_); rintro e w5 ⟨A5, n5, c5, rfl, o, b5⟩; have hx_5 := hx_4.below b5; have hy_5 := hy_4.below b5; have bx_5 := bx_4.below b5 bx_4.lt; have br_5 := br_4.below b5 br_4.lt; have z1_5 := z1_4.below b5 z1_4.lt; have z2_5 := z2_4.below b5 z2_4.lt; have F5 := below_then F4 (Nat.le_refl _) b5)
        | (go_at_call 57; (with_reducible refine (divisor_n _ _ _ _ _ _ _ ys 4000 D _ HD.out hy_4 hm o1 o2).mono ?_); rintro e w5 ⟨A5, n5, c5, rfl, o, b5⟩; have hx_5 := hx_4.below b5; have hy_5 := hy_4.below b5; have bx_5 := bx_4.below b5 bx_4.lt; have br_5 := br_4.below b5 br_4.lt; have z1_5 := z1_4.below b5 z1_4.lt; have F5 := below_then F4 (Nat.le_refl _) b5)
        | (have qx_bx := bx_4.lt; have qx_br := br_4.lt; have qz_z1_4 := z1_4.lt; have lz2_bx : w.heap.size ≠ w4.heap.size := (by omega); have ly2_bx := Ne.symm lz2_bx; have lz2_br : w.heap.size + 1 ≠ w4.heap.size := (by omega); have ly2_br := Ne.symm lz2_br; have gl2 : w.heap.size ≤ w4.heap.size := (by have := F4.size; omega); have lzz1_2 := Nat.ne_of_lt (Nat.lt_of_lt_of_le qz_z1_4 (show w4.heap.size ≤ w4.heap.size by omega)); have lyy1_2 := Ne.symm lzz1_2; have hx_4a := hx_4.alloc E0; have hy_4a := hy_4.alloc E0; have bx_4a := bx_4.alloc E0; have br_4a := br_4.alloc E0; have z1_4a := z1_4.alloc E0; have z2_4a : Sb ((w4).alloc E0) (w4.heap.size) (.bool false) (.slice none 0 0) := (by (have h_ := Sb.new (w4) (.bool false) (.slice none 0 0); exact h_)); have F_4a := F4.alloc F4.size E0; go_at_call 57; (with_reducible refine (divisor_n _ _ _ _ _ _ _ ys 4000 D _ HD.out hy_4a hm o1 o2).mono ?_); rintro e w5 ⟨A5, n5, c5, rfl, o, b5⟩; have hx_5 := hx_4a.below b5; have hy_5 := hy_4a.below b5; have bx_5 := bx_4a.below b5 bx_4a.lt; have br_5 := br_4a.below b5 br_4a.lt; have z1_5 := z1_4a.below b5 z1_4a.lt; have z2_5 := z2_4a.below b5 z2_4a.lt; have F5 := below_then F_4a (Nat.le_refl _) b5)
        | (go_at_call 57; (with_reducible refine (divisor_n _ _ _ _ _ _ _ ys 4000 D _ HD.out hy_4 hm o1 o2).mono ?_); rintro e w5 ⟨A5, n5, c5, rfl, o, b5⟩; have hx_5 := hx_4.below b5; have hy_5 := hy_4.below b5; have bx_5 := bx_4.below b5 bx_4.lt; have br_5 := br_4.below b5 br_4.lt; have F5 := below_then F4 (Nat.le_refl _) b5)
        | (have qx_bx := bx_4.lt; have qx_br := br_4.lt; have lz1_bx : w.heap.size ≠ w4.heap.size := (by omega); have ly1_bx := Ne.symm lz1_bx; have lz1_br : w.heap.size + 1 ≠ w4.heap.size := (by omega); have ly1_br := Ne.symm lz1_br; have gl1 : w.heap.size ≤ w4.heap.size := (by have := F4.size; omega); have hx_4a := hx_4.alloc E0; have hy_4a := hy_4.alloc E0; have bx_4a := bx_4.alloc E0; have br_4a := br_4.alloc E0; have z1_4a : Sb ((w4).alloc E0) (w4.heap.size) (.bool false) (.slice none 0 0) := (by (have h_ := Sb.new (w4) (.bool false) (.slice none 0 0); exact h_)); have F_4a := F4.alloc F4.size E0; go_at_call 57; (with_reducible refine (divisor_n _ _ _ _ _ _ _ ys 4000 D _ HD.out hy_4a hm o1 o2).mono ?_); rintro e w5 ⟨A5, n5, c5, rfl, o, b5⟩; have hx_5 := hx_4a.below b5; have hy_5 := hy_4a.below b5; have bx_5 := bx_4a.below b5 bx_4a.lt; have br_5 := br_4a.below b5 br_4a.lt; have z1_5 := z1_4a.below b5 z1_4a.lt; have F5 := below_then F_4a (Nat.le_refl _) b5)
        | (have qx_bx := bx_4.lt; have qx_br := br_4.lt; have lz1_bx : w.heap.size ≠ w4.heap.size := (by omega); have ly1_bx := Ne.symm lz1_bx; have lz1_br : w.heap.size + 1 ≠ w4.heap.size := (by omega); have ly1_br := Ne.symm lz1_br; have gl1 : w.heap.size ≤ w4.heap.size := (by have := F4.size; omega); have hx_4a := hx_4.alloc E0; have hy_4a := hy_4.alloc E0; have bx_4a := bx_4.alloc E0; have br_4a := br_4.alloc E0; have z1_4a : Sb ((w4).alloc E0) (w4.heap.size) (.bool false) (.slice none 0 0) := (by (have h_ := Sb.new (w4) (.bool false) (.slice none 0 0); exact h_)); have F_4a := F4.alloc F4.size E0; have lz2_bx : w.heap.size ≠ w4.heap.size + 1 := (by omega); have ly2_bx := Ne.symm lz2_bx; have lz2_br : w.heap.size + 1 ≠ w4.heap.size + 1 := (by omega); have ly2_br := Ne.symm lz2_br; have gl2 : w.heap.size ≤ w4.heap.size + 1 := (by have := F4.size; omega); have lzz1_2 : w4.heap.size ≠ w4.heap.size + 1 := (by omega); have lyy1_2 := Ne.symm lzz1_2; have hx_4b := hx_4a.alloc E0; have hy_4b := hy_4a.alloc E0; have bx_4b := bx_4a.alloc E0; have br_4b := br_4a.alloc E0; have z1_4b := z1_4a.alloc E0; have z2_4b : Sb (((w4).alloc E0).alloc E0) (w4.heap.size + 1) (.bool false) (.slice none 0 0) := (by (have h_ := Sb.new ((w4).alloc E0) (.bool false) (.slice none 0 0); simp only [World.size_alloc] at h_; exact h_)); have F_4b := F_4a.alloc F_4a.size E0; go_at_call 57; (with_reducible refine (divisor_n _ _ _ _ _ _ _ ys 4000 D _ HD.out hy_4b hm o1 o2).mono ?_); rintro e w5 ⟨A5, n5, c5, rfl, o, b5⟩; have hx_5 := hx_4b.below b5; have hy_5 := hy_4b.below b5; have bx_5 := bx_4b.below b5 bx_4b.lt; have br_5 := br_4b.below b5 br_4b.lt; have z1_5 := z1_4b.below b5 z1_4b.lt; have z2_5 := z2_4b.below b5 z2_4b.lt; have F5 := below_then F_4b (Nat.le_refl _) b5)
        | (go_at_call 71; (with_reducible refine (divmod_int _ _ _ _ _ _ _ _ _ _ _ _ _ HZ.out HR.out h0 hx_5 (HDD.out _ _ _ _ o).1 o4 (HDD.out _ _ _ _ o).2).mono ?_); rintro e w6 ⟨s6, A6, n6, c6, t6, B6, m6, d6, rfl, zq, zr, b6⟩; have hx_6 := hx_5.below b6; have hy_6 := hy_5.below b6; have o_6 := o.below b6; have bx_6 := bx_5.below b6 bx_5.lt; have br_6 := br_5.below b6 br_5.lt; have z1_6 := z1_5.below b6 z1_5.lt; have z2_6 := z2_5.below b6 z2_5.lt; have zk0_0 := z1_6.cell0; have zf0_0 := z1_6.frozen 0; have zk0_1 := z1_6.cell1; have zf0_1 := z1_6.frozen 1; have zk1_0 := z2_6.cell0; have zf1_0 := z2_6.frozen 0; have zk1_1 := z2_6.cell1; have zf1_1 := z2_6.frozen 1; have F6 := below_then F5 (Nat.le_refl _) b6; have kl_bx := bx_6.lt; have km_bx := Nat.ne_of_lt bx_6.lt; have kn_bx := Nat.ne_of_gt bx_6.lt; have kc_bx0 := bx_6.cell0; have kc_bx1 := bx_6.cell1; have kc_bx2 := bx_6.cell2; have kl_br := br_6.lt; have km_br := Nat.ne_of_lt br_6.lt; have kn_br := Nat.ne_of_gt br_6.lt; have kc_br0 := br_6.cell0; have kc_br1 := br_6.cell1; have kl0 := z1_6.lt; have km0 := Nat.ne_of_lt z1_6.lt; have kn0 := Nat.ne_of_gt z1_6.lt; have kl1 := z2_6.lt; have km1 := Nat.ne_of_lt z2_6.lt; have kn1 := Nat.ne_of_gt z2_6.lt)
        | (go_at_call 71; (with_reducible refine (divmod_int _ _ _ _ _ _ _ _ _ _ _ _ _ HZ.out HR.out h0 hx_5 (HDD.out _ _ _ _ o).1 o4 (HDD.out _ _ _ _ o).2).mono ?_); rintro e w6 ⟨s6, A6, n6, c6, t6, B6, m6, d6, rfl, zq, zr, b6⟩; have hx_6 := hx_5.below b6; have hy_6 := hy_5.below b6; have o_6 := o.below b6; have bx_6 := bx_5.below b6 bx_5.lt; have br_6 := br_5.below b6 br_5.lt; have z1_6 := z1_5.below b6 z1_5.lt; have zk0_0 := z1_6.cell0; have zf0_0 := z1_6.frozen 0; have zk0_1 := z1_6.cell1; have zf0_1 := z1_6.frozen 1; have F6 := below_then F5 (Nat.le_refl _) b6; have kl_bx := bx_6.lt; have km_bx := Nat.ne_of_lt bx_6.lt; have kn_bx := Nat.ne_of_gt bx_6.lt; have kc_bx0 := bx_6.cell0; have kc_bx1 := bx_6.cell1; have kc_bx2 := bx_6.cell2; have kl_br := br_6.lt; have km_br := Nat.ne_of_lt br_6.lt; have kn_br := Nat.ne_of_gt br_6.lt; have kc_br0 := br_6.cell0; have kc_br1 := br_6.cell1; have kl0 := z1_6.lt; have km0 := Nat.ne_of_lt z1_6.lt; have kn0 := Nat.ne_of_gt z1_6.lt)
        | (have qx_bx := bx_5.lt; have qx_br := br_5.lt; have qz_z1_5 := z1_5.lt; have lz2_bx : w.heap.size ≠ w5.heap.size := (by omega); have ly2_bx := Ne.symm lz2_bx; have lz2_br : w.heap.size + 1 ≠ w5.heap.size := (by omega); have ly2_br := Ne.symm lz2_br; have gl2 : w.heap.size ≤ w5.heap.size := (by have := F5.size; omega); have lzz1_2 := Nat.ne_of_lt (Nat.lt_of_lt_of_le qz_z1_5 (show w5.heap.size ≤ w5.heap.size by omega)); have lyy1_2 := Ne.symm lzz1_2; have hx_5a := hx_5.alloc E0; have hy_5a := hy_5.alloc E0; have o_5a := o.alloc E0; have bx_5a := bx_5.alloc E0; have br_5a := br_5.alloc E0; have z1_5a := z1_5.alloc E0; have z2_5a : Sb ((w5).alloc E0) (w5.heap.size) (.bool false) (.slice none 0 0) := (by (have h_ := Sb.new (w5) (.bool false) (.slice none 0 0); exact h_)); have F_5a := F5.alloc F5.size E0; go_at_call 71; (with_reducible refine (divmod_int _ _ _ _ _ _ _ _ _ _ _ _ _ HZ.out HR.out h0 hx_5a (HDD.out _ _ _ _ o_5a).1 o4 (HDD.out _ _ _ _ o_5a).2).mono ?_); rintro e w6 ⟨s6, A6, n6, c6, t6, B6, m6, d6, rfl, zq, zr, b6⟩; have hx_6 := hx_5a.below b6; have hy_6 := hy_5a.below b6; have o_6 := o_5a.below b6; have bx_6 := bx_5a.below b6 bx_5a.lt; have br_6 := br_5a.below b6 br_5a.lt; have z1_6 := z1_5a.below b6 z1_5a.lt; have z2_6 := z2_5a.below b6 z2_5a.lt; have zk0_0 := z1_6.cell0; have zf0_0 := z1_6.frozen 0; have zk0_1 := z1_6.cell1; have zf0_1 := z1_6.frozen 1; have zk1_0 := z2_6.cell0; have zf1_0 := z2_6.frozen 0; have zk1_1 := z2_6.cell1; have zf1_1 := z2_6.frozen 1; have F6 := below_then F_5a (Nat.le_refl _) b6; have kl_bx := bx_6.lt; have km_bx := Nat.ne_of_lt bx_6.lt; have kn_bx := Nat.ne_of_gt bx_6.lt; have kc_bx0 := bx_6.cell0; have kc_bx1 := bx_6.cell1; have kc_bx2 := bx_6.cell2; have kl_br := br_6.lt; have km_br := Nat.ne_of_lt br_6.lt; have kn_br := Nat.ne_of_gt br_6.lt; have kc_br0 := br_6.cell0; have kc_br1 := br_6.cell1; have kl0 := z1_6.lt; have km0 := Nat.ne_of_lt z1_6.lt; have kn0 := Nat.ne_of_gt z1_6.lt; have kl1 := z2_6.lt; have km1 := Nat.ne_of_lt z2_6.lt; have kn1 := Nat.ne_of_gt z2_6.lt)
        | (go_at_call 71; (with_reducible refine (divmod_int _ _ _ _ _ _ _ _ _ _ _ _ _ HZ.out HR.out h0 hx_5 (HDD.out _ _ _ _ o).1 o4 (HDD.out _ _ _ _ o).2).mono ?_); rintro e w6 ⟨s6, A6, n6, c6, t6, B6, m6, d6, rfl, zq, zr, b6⟩; have hx_6 := hx_5.below b6; have hy_6 := hy_5.below b6; have o_6 := o.below b6; have bx_6 := bx_5.below b6 bx_5.lt; have br_6 := br_5.below b6 br_5.lt; have F6 := below_then F5 (Nat.le_refl _) b6; have kl_bx := bx_6.lt; have km_bx := Nat.ne_of_lt bx_6.lt; have kn_bx := Nat.ne_of_gt bx_6.lt; have kc_bx0 := bx_6.cell0; have kc_bx1 := bx_6.cell1; have kc_bx2 := bx_6.cell2; have kl_br := br_6.lt; have km_br := Nat.ne_of_lt br_6.lt; have kn_br := Nat.ne_of_gt br_6.lt; have kc_br0 := br_6.cell0; have kc_br1 := br_6.cell1)
        | (have qx_bx := bx_5.lt; have qx_br := br_5.lt; have lz1_bx : w.heap.size ≠ w5.heap.size := (by omega); have ly1_bx := Ne.symm lz1_bx; have lz1_br : w.heap.size + 1 ≠ w5.heap.size := (by omega); have ly1_br := Ne.symm lz1_br; have gl1 : w.heap.size ≤ w5.heap.size := (by have := F5.size; omega); have hx_5a := hx_5.alloc E0; have hy_5a := hy_5.alloc E0; have o_5a := o.alloc E0; have bx_5a := bx_5.alloc E0; have br_5a := br_5.alloc E0; have z1_5a : Sb ((w5).alloc E0) (w5.heap.size) (.bool false) (.slice none 0 0) := (by (have h_ := Sb.new (w5) (.bool false) (.slice none 0 0); exact h_)); have F_5a := F5.alloc F5.size E0; go_at_call 71; (with_reducible refine (divmod_int _ _ _ _ _ _ _ _ _ _ _ _ _ HZ.out HR.out h0 hx_5a (HDD.out _ _ _ _ o_5a).1 o4 (HDD.out _ _ _ _ o_5a).2).mono ?_); rintro e w6 ⟨s6, A6, n6, c6, t6, B6, m6, d6, rfl, zq, zr, b6⟩; have hx_6 := hx_5a.below b6; have hy_6 := hy_5a.below b6; have o_6 := o_5a.below b6; have bx_6 := bx_5a.below b6 bx_5a.lt; have br_6 := br_5a.below b6 br_5a.lt; have z1_6 := z1_5a.below b6 z1_5a.lt; have zk0_0 := z1_6.cell0; have zf0_0 := z1_6.frozen 0; have zk0_1 := z1_6.cell1; have zf0_1 := z1_6.frozen 1; have F6 := below_then F_5a (Nat.le_refl _) b6; have kl_bx := bx_6.lt; have km_bx := Nat.ne_of_lt bx_6.lt; have kn_bx := Nat.ne_of_gt bx_6.lt; have kc_bx0 := bx_6.cell0; have kc_bx1 := bx_6.cell1; have kc_bx2 := bx_6.cell2; have kl_br := br_6.lt; have km_br := Nat.ne_of_lt br_6.lt; have kn_br := Nat.ne_of_gt br_6.lt; have kc_br0 := br_6.cell0; have kc_br1 := br_6.cell1; have kl0 := z1_6.lt; have km0 := Nat.ne_of_lt z1_6.lt; have kn0 := Nat.ne_of_gt z1_6.lt)
        | (have qx_bx := bx_5.lt; have qx_br := br_5.lt; have lz1_bx : w.heap.size ≠ w5.heap.size := (by omega); have ly1_bx := Ne.symm lz1_bx; have lz1_br : w.heap.size + 1 ≠ w5.heap.size := (by omega); have ly1_br := Ne.symm lz1_br; have gl1 : w.heap.size ≤ w5.heap.size := (by have := F5.size; omega); have hx_5a := hx_5.alloc E0; have hy_5a := hy_5.alloc E0; have o_5a := o.alloc E0; have bx_5a := bx_5.alloc E0; have br_5a := br_5.alloc E0; have z1_5a : Sb ((w5).alloc E0) (w5.heap.size) (.bool false) (.slice none 0 0) := (by (have h_ := Sb.new (w5) (.bool false) (.slice none 0 0); exact h_)); have F_5a := F5.alloc F5.size E0; have lz2_bx : w.heap.size ≠ w5.heap.size + 1 := (by omega); have ly2_bx := Ne.symm lz2_bx; have lz2_br : w.heap.size + 1 ≠ w5.heap.size + 1 := (by omega); have ly2_br := Ne.symm lz2_br; have gl2 : w.heap.size ≤ w5.heap.size + 1 := (by have := F5.size; omega); have lzz1_2 : w5.heap.size ≠ w5.heap.size + 1 := (by omega); have lyy1_2 := Ne.symm lzz1_2; have hx_5b := hx_5a.alloc E0; have hy_5b := hy_5a.alloc E0; have o_5b := o_5a.alloc E0; have bx_5b := bx_5a.alloc E0; have br_5b := br_5a.alloc E0; have z1_5b := z1_5a.alloc E0; have z2_5b : Sb (((w5).alloc E0).alloc E0) (w5.heap.size + 1) (.bool false) (.slice none 0 0) := (by (have h_ := Sb.new ((w5).alloc E0) (.bool false) (.slice none 0 0); simp only [World.size_alloc] at h_; exact h_)); have F_5b := F_5a.alloc F_5a.size E0; go_at_call 71; (with_reducible refine (divmod_int _ _ _ _ _ _ _ _ _ _ _ _ _ HZ.out HR.out h0 hx_5b (HDD.out _ _ _ _ o_5b).1 o4 (HDD.out _ _ _ _ o_5b).2).mono ?_); rintro e w6 ⟨s6, A6, n6, c6, t6, B6, m6, d6, rfl, zq, zr, b6⟩; have hx_6 := hx_5b.below b6; have hy_6 := hy_5b.below b6; have o_6 := o_5b.below b6; have bx_6 := bx_5b.below b6 bx_5b.lt; have br_6 := br_5b.below b6 br_5b.lt; have z1_6 := z1_5b.below b6 z1_5b.lt; have z2_6 := z2_5b.below b6 z2_5b.lt; have zk0_0 := z1_6.cell0; have zf0_0 := z1_6.frozen 0; have zk0_1 := z1_6.cell1; have zf0_1 := z1_6.frozen 1; have zk1_0 := z2_6.cell0; have zf1_0 := z2_6.frozen 0; have zk1_1 := z2_6.cell1; have zf1_1 := z2_6.frozen 1; have F6 := below_then F_5b (Nat.le_refl _) b6; have kl_bx := bx_6.lt; have km_bx := Nat.ne_of_lt bx_6.lt; have kn_bx := Nat.ne_of_gt bx_6.lt; have kc_bx0 := bx_6.cell0; have kc_bx1 := bx_6.cell1; have kc_bx2 := bx_6.cell2; have kl_br := br_6.lt; have km_br := Nat.ne_of_lt br_6.lt; have kn_br := Nat.ne_of_gt br_6.lt; have kc_br0 := br_6.cell0; have kc_br1 := br_6.cell1; have kl0 := z1_6.lt; have km0 := Nat.ne_of_lt z1_6.lt; have kn0 := Nat.ne_of_gt z1_6.lt; have kl1 := z2_6.lt; have km1 := Nat.ne_of_lt z2_6.lt; have kn1 := Nat.ne_of_gt z2_6.lt)
        | fail)
    all_goals (go_wp2_with fail; go_meet; first | with_reducible exact ⟨_, _, _, _, _, _, rfl, rfl, z1_6.stor.past lzz1_2, (br_6.past lz1_br).past lz2_br, Cz.stor (z2_6.past lyy1_2) (Cz.stor z1_6 zq), below_stor (below_stor F6 gl1) gl2⟩ | with_reducible exact ⟨_, _, _, _, _, _, rfl, rfl, z2_6.stor.past lyy1_2, (br_6.past lz2_br).past lz1_br, Cz.stor (z1_6.past lzz1_2) (Cz.stor z2_6 zq), below_stor (below_stor F6 gl2) gl1⟩ | with_reducible exact ⟨_, _, _, _, _, _, rfl, rfl, (z1_6.stor).alloc _, (br_6.past lz1_br).alloc _, (Cz.stor z1_6 zq).alloc _, (below_stor F6 gl1).alloc (below_stor F6 gl1).size _⟩ | with_reducible exact ⟨_, _, _, _, _, _, rfl, rfl, Sb_at (Sb.new _ _ _) (by simp [World.setCell]), (br_6.past lz1_br).alloc _, (Cz.stor z1_6 zq).alloc _, (below_stor F6 gl1).alloc (below_stor F6 gl1).size _⟩ | with_reducible exact ⟨_, _, _, _, _, _, rfl, rfl, (Sb.new _ _ _).alloc _, (br_6.alloc _).alloc _, (zq.alloc _).alloc _, (F6.alloc F6.size _).alloc (F6.alloc F6.size _).size _⟩ | with_reducible exact ⟨_, _, _, _, _, _, rfl, rfl, Sb_at (Sb.new _ _ _) (by simp), (br_6.alloc _).alloc _, (zq.alloc _).alloc _, (F6.alloc F6.size _).alloc (F6.alloc F6.size _).size _⟩ | fail)
  case rest =>
    obtain ⟨W', gx, s', A', n', c', rfl, rfl, hg, hr, hk, hF⟩ := hcut
    have bq_u7 := hg.cell0
    have bq_v7 := hg.cell1
    have br_u7 := hr.cell0
    have br_v7 := hr.cell1
    have br_f07 := hr.frozen 0
    have br_f17 := hr.frozen 1
    go_wp2_with fail
    refine bodyPost_ret (v := .agg #[.bool s', .slice A' n' c']) (by simp [results, Try.results45, go_sem, (hr.set0 (.bool s')).cell0, ((hr.set0 (.bool s')).set1 (.slice A' n' c')).cell1]) rfl (gi_end hF (by omega) hr hk)
end Go.Proofs.Ytabgniijlofapaa
