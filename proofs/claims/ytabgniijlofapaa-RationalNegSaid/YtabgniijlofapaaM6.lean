/-
  Several texts in one, in build order: R11 R12 R13 R14.
-/
import Derived.Test.YtabgniijlofapaaM5
import Derived.Deep.DeepCutAuto
import Derived.Deep.CutBlock

/-
  The specification's Floor.
-/
namespace Go.Proofs.Ytabgniijlofapaa
open Go.RowKit
set_option linter.unusedVariables false
set_option linter.unusedSimpArgs false

theorem Sb_at {w : World} {g g' : Nat} {v0 v1 : Value} (h : Sb w g v0 v1) (e : g = g') : Sb w g' v0 v1 := e ▸ h
set_option maxRecDepth 50000 in
set_option maxHeartbeats 2000000 in
theorem rfloor_q (s : Bool) (A : Option Addr) (n c : Nat) (B : Option Addr) (m d : Nat) (q : Rat) (z : Int) (w : World) (hz : qfl q = z) (h : Iq w s A n c B m d q) (hn : n ≤ 4000) (hm : m ≤ 4000) :
    Calls Try.prog 99 #[.agg #[.bool s, .slice A n c, .slice B m d]] w (GI w z) := by
  have hs := h.size hn hm (by omega)
  have hs1 : q.num.natAbs < pw 4000 := hs.1
  have hs2 : q.den < pw 4000 := hs.2
  have n1 : n ≤ 16384 := by omega
  have k4 : 4000 ≤ 16384 := by omega
  have n2 : m ≤ 16384 := by omega
  obtain ⟨L, hL⟩ : ∃ L, (dg q.den).length = L := ⟨_, rfl⟩
  have lL : L ≤ 16384 := by rw [← hL]; exact Nat.le_trans (dg_le hs.2) (by omega)
  obtain ⟨R, hR⟩ : ∃ R, q.num % (q.den : Int) = R := ⟨_, rfl⟩
  have HL := hide hL
  have HZ := hide (show q.num / (q.den : Int) = z from hz)
  have HR := hide hR
  have h0 : (q.den : Int) ≠ 0 := by have := q.den_nz; omega
  clear hL hz hR
  have h_1 := h.alloc (EQ s A n c B m d)
  have bx_1 : Sq ((w).alloc (EQ s A n c B m d)) (w.heap.size) (.bool s) (.slice A n c) (.slice B m d) := by have h_ := Sq.new (w) (.bool s) (.slice A n c) (.slice B m d); exact h_
  have F1 := (Below.refl w.heap.size w).alloc (Nat.le_refl _) (EQ s A n c B m d)
  have h_2 := h_1.alloc E0
  have bx_2 := bx_1.alloc E0
  have br_2 : Sb (((w).alloc (EQ s A n c B m d)).alloc E0) (w.heap.size + 1) (.bool false) (.slice none 0 0) := by have h_ := Sb.new ((w).alloc (EQ s A n c B m d)) (.bool false) (.slice none 0 0); simp only [World.size_alloc] at h_; exact h_
  have F2 := F1.alloc F1.size E0
  go_enter Try.func99, Try.ntmps99
  go_upto_region 1 with fail
  go_cut [3] (fun sx wy => ∃ (W' : World) (gx : Nat) (s' : Bool) (A' : Option Addr) (n' c' : Nat), W' = wy ∧ sx = .pointer (some ⟨gx, 0, none⟩) ∧ Sb W' gx (.bool s') (.slice A' n' c') ∧ Sb W' (w.heap.size + 1) (.bool false) (.slice none 0 0) ∧ Cz W' s' A' n' c' z ∧ Below w.heap.size w W')
  case first =>
    have h_3 := h_2.drew
    have bx_3 := bx_2.drew
    have br_3 := br_2.drew
    have F3 := F2.drew
    have h_y1 := h_2.alloc E0
    have bx_y1 := bx_2.alloc E0
    have br_y1 := br_2.alloc E0
    have zq1 : Sb ((((w).alloc (EQ s A n c B m d)).alloc E0).alloc E0) (w.heap.size + 2) (.bool false) (.slice none 0 0) := by have h_ := Sb.new (((w).alloc (EQ s A n c B m d)).alloc E0) (.bool false) (.slice none 0 0); simp only [World.size_alloc] at h_; exact h_
    have F_y1 := F2.alloc F2.size E0
    have h_d1 := h_y1.drew
    have bx_d1 := bx_y1.drew
    have br_d1 := br_y1.drew
    have z1_d1 := zq1.drew
    have F_d1 := F_y1.drew
    have h_y2 := h_y1.alloc E0
    have bx_y2 := bx_y1.alloc E0
    have br_y2 := br_y1.alloc E0
    have zq12 := zq1.alloc E0
    have zq2 : Sb (((((w).alloc (EQ s A n c B m d)).alloc E0).alloc E0).alloc E0) (w.heap.size + 3) (.bool false) (.slice none 0 0) := by have h_ := Sb.new ((((w).alloc (EQ s A n c B m d)).alloc E0).alloc E0) (.bool false) (.slice none 0 0); simp only [World.size_alloc] at h_; exact h_
    have F_y2 := F_y1.alloc F_y1.size E0
    have h_d2 := h_y2.drew
    have bx_d2 := bx_y2.drew
    have br_d2 := br_y2.drew
    have z1_d2 := zq12.drew
    have z2_d2 := zq2.drew
    have F_d2 := F_y2.drew
    have lz1_bx : w.heap.size ≠ w.heap.size + 2 := by omega
    have ly1_bx := Ne.symm lz1_bx
    have lz1_br : w.heap.size + 1 ≠ w.heap.size + 2 := by omega
    have ly1_br := Ne.symm lz1_br
    have lz2_bx : w.heap.size ≠ w.heap.size + 3 := by omega
    have ly2_bx := Ne.symm lz2_bx
    have lz2_br : w.heap.size + 1 ≠ w.heap.size + 3 := by omega
    have ly2_br := Ne.symm lz2_br
    have gl1 : w.heap.size ≤ w.heap.size + 2 := by omega
    have gl2 : w.heap.size ≤ w.heap.size + 3 := by omega
    have lzz1_2 : w.heap.size + 2 ≠ w.heap.size + 3 := by omega
    have lyy1_2 := Ne.symm lzz1_2
    go_region_held3 (fun w' => w'.cell? ⟨w.heap.size, 0, none⟩ = some (.bool s) ∧ w'.cell? ⟨w.heap.size, 1, none⟩ = some (.slice A n c) ∧ w'.cell? ⟨w.heap.size, 2, none⟩ = some (.slice B m d))
      (first
        | with_reducible exact ⟨((bx_6.alloc E0).alloc E0).cell0, ((bx_6.alloc E0).alloc E0).cell1, ((bx_6.alloc E0).alloc E0).cell2⟩
        | with_reducible exact ⟨(bx_6.alloc E0).cell0, (bx_6.alloc E0).cell1, (bx_6.alloc E0).cell2⟩
        | with_reducible exact ⟨bx_6.cell0, bx_6.cell1, bx_6.cell2⟩
        | with_reducible exact ⟨((bx_5.alloc E0).alloc E0).cell0, ((bx_5.alloc E0).alloc E0).cell1, ((bx_5.alloc E0).alloc E0).cell2⟩
        | with_reducible exact ⟨(bx_5.alloc E0).cell0, (bx_5.alloc E0).cell1, (bx_5.alloc E0).cell2⟩
        | with_reducible exact ⟨bx_5.cell0, bx_5.cell1, bx_5.cell2⟩
        | with_reducible exact ⟨((bx_4.alloc E0).alloc E0).cell0, ((bx_4.alloc E0).alloc E0).cell1, ((bx_4.alloc E0).alloc E0).cell2⟩
        | with_reducible exact ⟨(bx_4.alloc E0).cell0, (bx_4.alloc E0).cell1, (bx_4.alloc E0).cell2⟩
        | with_reducible exact ⟨bx_4.cell0, bx_4.cell1, bx_4.cell2⟩
        | with_reducible exact ⟨bx_d2.cell0, bx_d2.cell1, bx_d2.cell2⟩
        | with_reducible exact ⟨bx_d1.cell0, bx_d1.cell1, bx_d1.cell2⟩
        | with_reducible exact ⟨bx_3.cell0, bx_3.cell1, bx_3.cell2⟩
        | go_keep
        | fail)
      (first
        | (go_at_call 21; (with_reducible refine (rnum_q _ _ _ _ _ _ _ _ _ h_3 n1 n2).mono ?_); rintro e w4 ⟨s4, A4, n4, c4, rfl, k, b4⟩; have h_4 := h_3.below b4; have bx_4 := bx_3.below b4 bx_3.lt; have br_4 := br_3.below b4 br_3.lt; have F4 := below_then F3 (Nat.le_refl _) b4; have l1 := Nat.le_trans (k.len hs1) (show 4000 ≤ 16384 by omega))
        | (go_at_call 21; (with_reducible refine (rnum_q _ _ _ _ _ _ _ _ _ h_d1 n1 n2).mono ?_); rintro e w4 ⟨s4, A4, n4, c4, rfl, k, b4⟩; have h_4 := h_d1.below b4; have bx_4 := bx_d1.below b4 bx_d1.lt; have br_4 := br_d1.below b4 br_d1.lt; have z1_4 := z1_d1.below b4 z1_d1.lt; have F4 := below_then F_d1 (Nat.le_refl _) b4; have l1 := Nat.le_trans (k.len hs1) (show 4000 ≤ 16384 by omega))
        | (go_at_call 21; (with_reducible refine (rnum_q _ _ _ _ _ _ _ _ _ h_d2 n1 n2).mono ?_); rintro e w4 ⟨s4, A4, n4, c4, rfl, k, b4⟩; have h_4 := h_d2.below b4; have bx_4 := bx_d2.below b4 bx_d2.lt; have br_4 := br_d2.below b4 br_d2.lt; have z1_4 := z1_d2.below b4 z1_d2.lt; have z2_4 := z2_d2.below b4 z2_d2.lt; have F4 := below_then F_d2 (Nat.le_refl _) b4; have l1 := Nat.le_trans (k.len hs1) (show 4000 ≤ 16384 by omega))
        | (go_at_call 24; (with_reducible refine (rden_q _ _ _ _ _ _ _ _ L _ HL.out h_4 n1 n2 4000 k4 hs2).mono ?_); rintro e w5 ⟨A5, c5, rfl, o, b5⟩; have h_5 := h_4.below b5; have k_5 := k.below b5; have bx_5 := bx_4.below b5 bx_4.lt; have br_5 := br_4.below b5 br_4.lt; have z1_5 := z1_4.below b5 z1_4.lt; have z2_5 := z2_4.below b5 z2_4.lt; have F5 := below_then F4 (Nat.le_refl _) b5)
        | (go_at_call 24; (with_reducible refine (rden_q _ _ _ _ _ _ _ _ L _ HL.out h_4 n1 n2 4000 k4 hs2).mono ?_); rintro e w5 ⟨A5, c5, rfl, o, b5⟩; have h_5 := h_4.below b5; have k_5 := k.below b5; have bx_5 := bx_4.below b5 bx_4.lt; have br_5 := br_4.below b5 br_4.lt; have z1_5 := z1_4.below b5 z1_4.lt; have F5 := below_then F4 (Nat.le_refl _) b5)
        | (have qx_bx := bx_4.lt; have qx_br := br_4.lt; have qz_z1_4 := z1_4.lt; have lz2_bx : w.heap.size ≠ w4.heap.size := (by omega); have ly2_bx := Ne.symm lz2_bx; have lz2_br : w.heap.size + 1 ≠ w4.heap.size := (by omega); have ly2_br := Ne.symm lz2_br; have gl2 : w.heap.size ≤ w4.heap.size := (by have := F4.size; omega); have lzz1_2 := Nat.ne_of_lt (Nat.lt_of_lt_of_le qz_z1_4 (show w4.heap.size ≤ w4.heap.size by omega)); have lyy1_2 := Ne.symm lzz1_2; have h_4a := h_4.alloc E0; have k_4a := k.alloc E0; have bx_4a := bx_4.alloc E0; have br_4a := br_4.alloc E0; have z1_4a := z1_4.alloc E0; have z2_4a : Sb ((w4).alloc E0) (w4.heap.size) (.bool false) (.slice none 0 0) := (by (have h_ := Sb.new (w4) (.bool false) (.slice none 0 0); exact h_)); have F_4a := F4.alloc F4.size E0; go_at_call 24; (with_reducible refine (rden_q _ _ _ _ _ _ _ _ L _ HL.out h_4a n1 n2 4000 k4 hs2).mono ?_); rintro e w5 ⟨A5, c5, rfl, o, b5⟩; have h_5 := h_4a.below b5; have k_5 := k_4a.below b5; have bx_5 := bx_4a.below b5 bx_4a.lt; have br_5 := br_4a.below b5 br_4a.lt; have z1_5 := z1_4a.below b5 z1_4a.lt; have z2_5 := z2_4a.below b5 z2_4a.lt; have F5 := below_then F_4a (Nat.le_refl _) b5)
        | (go_at_call 24; (with_reducible refine (rden_q _ _ _ _ _ _ _ _ L _ HL.out h_4 n1 n2 4000 k4 hs2).mono ?_); rintro e w5 ⟨A5, c5, rfl, o, b5⟩; have h_5 := h_4.below b5; have k_5 := k.below b5; have bx_5 := bx_4.below b5 bx_4.lt; have br_5 := br_4.below b5 br_4.lt; have F5 := below_then F4 (Nat.le_refl _) b5)
        | (have qx_bx := bx_4.lt; have qx_br := br_4.lt; have lz1_bx : w.heap.size ≠ w4.heap.size := (by omega); have ly1_bx := Ne.symm lz1_bx; have lz1_br : w.heap.size + 1 ≠ w4.heap.size := (by omega); have ly1_br := Ne.symm lz1_br; have gl1 : w.heap.size ≤ w4.heap.size := (by have := F4.size; omega); have h_4a := h_4.alloc E0; have k_4a := k.alloc E0; have bx_4a := bx_4.alloc E0; have br_4a := br_4.alloc E0; have z1_4a : Sb ((w4).alloc E0) (w4.heap.size) (.bool false) (.slice none 0 0) := (by (have h_ := Sb.new (w4) (.bool false) (.slice none 0 0); exact h_)); have F_4a := F4.alloc F4.size E0; go_at_call 24; (with_reducible refine (rden_q _ _ _ _ _ _ _ _ L _ HL.out h_4a n1 n2 4000 k4 hs2).mono ?_); rintro e w5 ⟨A5, c5, rfl, o, b5⟩; have h_5 := h_4a.below b5; have k_5 := k_4a.below b5; have bx_5 := bx_4a.below b5 bx_4a.lt; have br_5 := br_4a.below b5 br_4a.lt; have z1_5 := z1_4a.below b5 z1_4a.lt; have F5 := below_then F_4a (Nat.le_refl _) b5)
        | (have qx_bx := bx_4.lt; have qx_br := br_4.lt; have lz1_bx : w.heap.size ≠ w4.heap.size := (by omega); have ly1_bx := Ne.symm lz1_bx; have lz1_br : w.heap.size + 1 ≠ w4.heap.size := (by omega); have ly1_br := Ne.symm lz1_br; have gl1 : w.heap.size ≤ w4.heap.size := (by have := F4.size; omega); have h_4a := h_4.alloc E0; have k_4a := k.alloc E0; have bx_4a := bx_4.alloc E0; have br_4a := br_4.alloc E0; have z1_4a : Sb ((w4).alloc E0) (w4.heap.size) (.bool false) (.slice none 0 0) := (by (have h_ := Sb.new (w4) (.bool false) (.slice none 0 0); exact h_)); have F_4a := F4.alloc F4.size E0; have lz2_bx : w.heap.size ≠ w4.heap.size + 1 := (by omega); have ly2_bx := Ne.symm lz2_bx; have lz2_br : w.heap.size + 1 ≠ w4.heap.size + 1 := (by omega); have ly2_br := Ne.symm lz2_br; have gl2 : w.heap.size ≤ w4.heap.size + 1 := (by have := F4.size; omega); have lzz1_2 : w4.heap.size ≠ w4.heap.size + 1 := (by omega); have lyy1_2 := Ne.symm lzz1_2; have h_4b := h_4a.alloc E0; have k_4b := k_4a.alloc E0; have bx_4b := bx_4a.alloc E0; have br_4b := br_4a.alloc E0; have z1_4b := z1_4a.alloc E0; have z2_4b : Sb (((w4).alloc E0).alloc E0) (w4.heap.size + 1) (.bool false) (.slice none 0 0) := (by (have h_ := Sb.new ((w4).alloc E0) (.bool false) (.slice none 0 0); simp only [World.size_alloc] at h_; exact h_)); have F_4b := F_4a.alloc F_4a.size E0; go_at_call 24; (with_reducible refine (rden_q _ _ _ _ _ _ _ _ L _ HL.out h_4b n1 n2 4000 k4 hs2).mono ?_); rintro e w5 ⟨A5, c5, rfl, o, b5⟩; have h_5 := h_4b.below b5; have k_5 := k_4b.below b5; have bx_5 := bx_4b.below b5 bx_4b.lt; have br_5 := br_4b.below b5 br_4b.lt; have z1_5 := z1_4b.below b5 z1_4b.lt; have z2_5 := z2_4b.below b5 z2_4b.lt; have F5 := below_then F_4b (Nat.le_refl _) b5)
        | (go_at_call 113; (with_reducible refine (rdivmod_int _ _ _ _ _ _ _ _ _ _ _ _ _ HZ.out HR.out h0 k_5.iz (iz_of (Z := (q.den : Int)) false o rfl) l1 lL).mono ?_); rintro e w6 ⟨s6, A6, n6, c6, t6, B6, m6, d6, rfl, zq, zr, b6⟩; have h_6 := h_5.below b6; have k_6 := k_5.below b6; have o_6 := o.below b6; have bx_6 := bx_5.below b6 bx_5.lt; have br_6 := br_5.below b6 br_5.lt; have z1_6 := z1_5.below b6 z1_5.lt; have z2_6 := z2_5.below b6 z2_5.lt; have zk0_0 := z1_6.cell0; have zf0_0 := z1_6.frozen 0; have zk0_1 := z1_6.cell1; have zf0_1 := z1_6.frozen 1; have zk1_0 := z2_6.cell0; have zf1_0 := z2_6.frozen 0; have zk1_1 := z2_6.cell1; have zf1_1 := z2_6.frozen 1; have F6 := below_then F5 (Nat.le_refl _) b6; have kl_bx := bx_6.lt; have km_bx := Nat.ne_of_lt bx_6.lt; have kn_bx := Nat.ne_of_gt bx_6.lt; have kc_bx0 := bx_6.cell0; have kc_bx1 := bx_6.cell1; have kc_bx2 := bx_6.cell2; have kl_br := br_6.lt; have km_br := Nat.ne_of_lt br_6.lt; have kn_br := Nat.ne_of_gt br_6.lt; have kc_br0 := br_6.cell0; have kc_br1 := br_6.cell1; have kl0 := z1_6.lt; have km0 := Nat.ne_of_lt z1_6.lt; have kn0 := Nat.ne_of_gt z1_6.lt; have kl1 := z2_6.lt; have km1 := Nat.ne_of_lt z2_6.lt; have kn1 := Nat.ne_of_gt z2_6.lt)
        | (go_at_call 113; (with_reducible refine (rdivmod_int _ _ _ _ _ _ _ _ _ _ _ _ _ HZ.out HR.out h0 k_5.iz (iz_of (Z := (q.den : Int)) false o rfl) l1 lL).mono ?_); rintro e w6 ⟨s6, A6, n6, c6, t6, B6, m6, d6, rfl, zq, zr, b6⟩; have h_6 := h_5.below b6; have k_6 := k_5.below b6; have o_6 := o.below b6; have bx_6 := bx_5.below b6 bx_5.lt; have br_6 := br_5.below b6 br_5.lt; have z1_6 := z1_5.below b6 z1_5.lt; have zk0_0 := z1_6.cell0; have zf0_0 := z1_6.frozen 0; have zk0_1 := z1_6.cell1; have zf0_1 := z1_6.frozen 1; have F6 := below_then F5 (Nat.le_refl _) b6; have kl_bx := bx_6.lt; have km_bx := Nat.ne_of_lt bx_6.lt; have kn_bx := Nat.ne_of_gt bx_6.lt; have kc_bx0 := bx_6.cell0; have kc_bx1 := bx_6.cell1; have kc_bx2 := bx_6.cell2; have kl_br := br_6.lt; have km_br := Nat.ne_of_lt br_6.lt; have kn_br := Nat.ne_of_gt br_6.lt; have kc_br0 := br_6.cell0; have kc_br1 := br_6.cell1; have kl0 := z1_6.lt; have km0 := Nat.ne_of_lt z1_6.lt; have kn0 := Nat.ne_of_gt z1_6.lt)
        | (have qx_bx := bx_5.lt; have qx_br := br_5.lt; have qz_z1_5 := z1_5.lt; have lz2_bx : w.heap.size ≠ w5.heap.size := (by omega); have ly2_bx := Ne.symm lz2_bx; have lz2_br : w.heap.size + 1 ≠ w5.heap.size := (by omega); have ly2_br := Ne.symm lz2_br; have gl2 : w.heap.size ≤ w5.heap.size := (by have := F5.size; omega); have lzz1_2 := Nat.ne_of_lt (Nat.lt_of_lt_of_le qz_z1_5 (show w5.heap.size ≤ w5.heap.size by omega)); have lyy1_2 := Ne.symm lzz1_2; have h_5a := h_5.alloc E0; have k_5a := k_5.alloc E0; have o_5a := o.alloc E0; have bx_5a := bx_5.alloc E0; have br_5a := br_5.alloc E0; have z1_5a := z1_5.alloc E0; have z2_5a : Sb ((w5).alloc E0) (w5.heap.size) (.bool false) (.slice none 0 0) := (by (have h_ := Sb.new (w5) (.bool false) (.slice none 0 0); exact h_)); have F_5a := F5.alloc F5.size E0; go_at_call 113; (with_reducible refine (rdivmod_int _ _ _ _ _ _ _ _ _ _ _ _ _ HZ.out HR.out h0 k_5a.iz (iz_of (Z := (q.den : Int)) false o_5a rfl) l1 lL).mono ?_); rintro e w6 ⟨s6, A6, n6, c6, t6, B6, m6, d6, rfl, zq, zr, b6⟩; have h_6 := h_5a.below b6; have k_6 := k_5a.below b6; have o_6 := o_5a.below b6; have bx_6 := bx_5a.below b6 bx_5a.lt; have br_6 := br_5a.below b6 br_5a.lt; have z1_6 := z1_5a.below b6 z1_5a.lt; have z2_6 := z2_5a.below b6 z2_5a.lt; have zk0_0 := z1_6.cell0; have zf0_0 := z1_6.frozen 0; have zk0_1 := z1_6.cell1; have zf0_1 := z1_6.frozen 1; have zk1_0 := z2_6.cell0; have zf1_0 := z2_6.frozen 0; have zk1_1 := z2_6.cell1; have zf1_1 := z2_6.frozen 1; have F6 := below_then F_5a (Nat.le_refl _) b6; have kl_bx := bx_6.lt; have km_bx := Nat.ne_of_lt bx_6.lt; have kn_bx := Nat.ne_of_gt bx_6.lt; have kc_bx0 := bx_6.cell0; have kc_bx1 := bx_6.cell1; have kc_bx2 := bx_6.cell2; have kl_br := br_6.lt; have km_br := Nat.ne_of_lt br_6.lt; have kn_br := Nat.ne_of_gt br_6.lt; have kc_br0 := br_6.cell0; have kc_br1 := br_6.cell1; have kl0 := z1_6.lt; have km0 := Nat.ne_of_lt z1_6.lt; have kn0 := Nat.ne_of_gt z1_6.lt; have kl1 := z2_6.lt; have km1 := Nat.ne_of_lt z2_6.lt; have kn1 := Nat.ne_of_gt z2_6.lt)
        | (go_at_call 113; (with_reducible refine (rdivmod_int _ _ _ _ _ _ _ _ _ _ _ _ _ HZ.out HR.out h0 k_5.iz (iz_of (Z := (q.den : Int)) false o rfl) l1 lL).mono ?_); rintro e w6 ⟨s6, A6, n6, c6, t6, B6, m6, d6, rfl, zq, zr, b6⟩; have h_6 := h_5.below b6; have k_6 := k_5.below b6; have o_6 := o.below b6; have bx_6 := bx_5.below b6 bx_5.lt; have br_6 := br_5.below b6 br_5.lt; have F6 := below_then F5 (Nat.le_refl _) b6; have kl_bx := bx_6.lt; have km_bx := Nat.ne_of_lt bx_6.lt; have kn_bx := Nat.ne_of_gt bx_6.lt; have kc_bx0 := bx_6.cell0; have kc_bx1 := bx_6.cell1; have kc_bx2 := bx_6.cell2; have kl_br := br_6.lt; have km_br := Nat.ne_of_lt br_6.lt; have kn_br := Nat.ne_of_gt br_6.lt; have kc_br0 := br_6.cell0; have kc_br1 := br_6.cell1)
        | (have qx_bx := bx_5.lt; have qx_br := br_5.lt; have lz1_bx : w.heap.size ≠ w5.heap.size := (by omega); have ly1_bx := Ne.symm lz1_bx; have lz1_br : w.heap.size + 1 ≠ w5.heap.size := (by omega); have ly1_br := Ne.symm lz1_br; have gl1 : w.heap.size ≤ w5.heap.size := (by have := F5.size; omega); have h_5a := h_5.alloc E0; have k_5a := k_5.alloc E0; have o_5a := o.alloc E0; have bx_5a := bx_5.alloc E0; have br_5a := br_5.alloc E0; have z1_5a : Sb ((w5).alloc E0) (w5.heap.size) (.bool false) (.slice none 0 0) := (by (have h_ := Sb.new (w5) (.bool false) (.slice none 0 0); exact h_)); have F_5a := F5.alloc F5.size E0; go_at_call 113; (with_reducible refine (rdivmod_int _ _ _ _ _ _ _ _ _ _ _ _ _ HZ.out HR.out h0 k_5a.iz (iz_of (Z := (q.den : Int)) false o_5a rfl) l1 lL).mono ?_); rintro e w6 ⟨s6, A6, n6, c6, t6, B6, m6, d6, rfl, zq, zr, b6⟩; have h_6 := h_5a.below b6; have k_6 := k_5a.below b6; have o_6 := o_5a.below b6; have bx_6 := bx_5a.below b6 bx_5a.lt; have br_6 := br_5a.below b6 br_5a.lt; have z1_6 := z1_5a.below b6 z1_5a.lt; have zk0_0 := z1_6.cell0; have zf0_0 := z1_6.frozen 0; have zk0_1 := z1_6.cell1; have zf0_1 := z1_6.frozen 1; have F6 := below_then F_5a (Nat.le_refl _) b6; have kl_bx := bx_6.lt; have km_bx := Nat.ne_of_lt bx_6.lt; have kn_bx := Nat.ne_of_gt bx_6.lt; have kc_bx0 := bx_6.cell0; have kc_bx1 := bx_6.cell1; have kc_bx2 := bx_6.cell2; have kl_br := br_6.lt; have km_br := Nat.ne_of_lt br_6.lt; have kn_br := Nat.ne_of_gt br_6.lt; have kc_br0 := br_6.cell0; have kc_br1 := br_6.cell1; have kl0 := z1_6.lt; have km0 := Nat.ne_of_lt z1_6.lt; have kn0 := Nat.ne_of_gt z1_6.lt)
        | (have qx_bx := bx_5.lt; have qx_br := br_5.lt; have lz1_bx : w.heap.size ≠ w5.heap.size := (by omega); have ly1_bx := Ne.symm lz1_bx; have lz1_br : w.heap.size + 1 ≠ w5.heap.size := (by omega); have ly1_br := Ne.symm lz1_br; have gl1 : w.heap.size ≤ w5.heap.size := (by have := F5.size; omega); have h_5a := h_5.alloc E0; have k_5a := k_5.alloc E0; have o_5a := o.alloc E0; have bx_5a := bx_5.alloc E0; have br_5a := br_5.alloc E0; have z1_5a : Sb ((w5).alloc E0) (w5.heap.size) (.bool false) (.slice none 0 0) := (by (have h_ := Sb.new (w5) (.bool false) (.slice none 0 0); exact h_)); have F_5a := F5.alloc F5.size E0; have lz2_bx : w.heap.size ≠ w5.heap.size + 1 := (by omega); have ly2_bx := Ne.symm lz2_bx; have lz2_br : w.heap.size + 1 ≠ w5.heap.size + 1 := (by omega); have ly2_br := Ne.symm lz2_br; have gl2 : w.heap.size ≤ w5.heap.size + 1 := (by have := F5.size; omega); have lzz1_2 : w5.heap.size ≠ w5.heap.size + 1 := (by omega); have lyy1_2 := Ne.symm lzz1_2; have h_5b := h_5a.alloc E0; have k_5b := k_5a.alloc E0; have o_5b := o_5a.alloc E0; have bx_5b := bx_5a.alloc E0; have br_5b := br_5a.alloc E0; have z1_5b := z1_5a.alloc E0; have z2_5b : Sb (((w5).alloc E0).alloc E0) (w5.heap.size + 1) (.bool false) (.slice none 0 0) := (by (have h_ := Sb.new ((w5).alloc E0) (.bool false) (.slice none 0 0); simp only [World.size_alloc] at h_; exact h_)); have F_5b := F_5a.alloc F_5a.size E0; go_at_call 113; (with_reducible refine (rdivmod_int _ _ _ _ _ _ _ _ _ _ _ _ _ HZ.out HR.out h0 k_5b.iz (iz_of (Z := (q.den : Int)) false o_5b rfl) l1 lL).mono ?_); rintro e w6 ⟨s6, A6, n6, c6, t6, B6, m6, d6, rfl, zq, zr, b6⟩; have h_6 := h_5b.below b6; have k_6 := k_5b.below b6; have o_6 := o_5b.below b6; have bx_6 := bx_5b.below b6 bx_5b.lt; have br_6 := br_5b.below b6 br_5b.lt; have z1_6 := z1_5b.below b6 z1_5b.lt; have z2_6 := z2_5b.below b6 z2_5b.lt; have zk0_0 := z1_6.cell0; have zf0_0 := z1_6.frozen 0; have zk0_1 := z1_6.cell1; have zf0_1 := z1_6.frozen 1; have zk1_0 := z2_6.cell0; have zf1_0 := z2_6.frozen 0; have zk1_1 := z2_6.cell1; have zf1_1 := z2_6.frozen 1; have F6 := below_then F_5b (Nat.le_refl _) b6; have kl_bx := bx_6.lt; have km_bx := Nat.ne_of_lt bx_6.lt; have kn_bx := Nat.ne_of_gt bx_6.lt; have kc_bx0 := bx_6.cell0; have kc_bx1 := bx_6.cell1; have kc_bx2 := bx_6.cell2; have kl_br := br_6.lt; have km_br := Nat.ne_of_lt br_6.lt; have kn_br := Nat.ne_of_gt br_6.lt; have kc_br0 := br_6.cell0; have kc_br1 := br_6.cell1; have kl0 := z1_6.lt; have km0 := Nat.ne_of_lt z1_6.lt; have kn0 := Nat.ne_of_gt z1_6.lt; have kl1 := z2_6.lt; have km1 := Nat.ne_of_lt z2_6.lt; have kn1 := Nat.ne_of_gt z2_6.lt)
        | fail)
    all_goals (go_wp2_with fail; go_meet; first | with_reducible exact ⟨_, _, _, _, _, _, rfl, rfl, z1_6.stor.past lzz1_2, (br_6.past lz1_br).past lz2_br, Cz.stor (z2_6.past lyy1_2) (Cz.stor z1_6 zq), below_stor (below_stor F6 gl1) gl2⟩ | with_reducible exact ⟨_, _, _, _, _, _, rfl, rfl, z2_6.stor.past lyy1_2, (br_6.past lz2_br).past lz1_br, Cz.stor (z1_6.past lzz1_2) (Cz.stor z2_6 zq), below_stor (below_stor F6 gl2) gl1⟩ | with_reducible exact ⟨_, _, _, _, _, _, rfl, rfl, (z1_6.stor).alloc _, (br_6.past lz1_br).alloc _, (Cz.stor z1_6 zq).alloc _, (below_stor F6 gl1).alloc (below_stor F6 gl1).size _⟩ | with_reducible exact ⟨_, _, _, _, _, _, rfl, rfl, Sb_at (Sb.new _ _ _) (by simp [World.setCell]), (br_6.past lz1_br).alloc _, (Cz.stor z1_6 zq).alloc _, (below_stor F6 gl1).alloc (below_stor F6 gl1).size _⟩ | with_reducible exact ⟨_, _, _, _, _, _, rfl, rfl, (Sb.new _ _ _).alloc _, (br_6.alloc _).alloc _, (zq.alloc _).alloc _, (F6.alloc F6.size _).alloc (F6.alloc F6.size _).size _⟩ | with_reducible exact ⟨_, _, _, _, _, _, rfl, rfl, Sb_at (Sb.new _ _ _) (by simp), (br_6.alloc _).alloc _, (zq.alloc _).alloc _, (F6.alloc F6.size _).alloc (F6.alloc F6.size _).size _⟩ | fail)
  case rest =>
    obtain ⟨W', gx, s', A', n', c', rfl, rfl, hg, hr, hk, hF⟩ := hcut
    have bq_u7 := hg.cell0
    have bq_v7 := hg.cell1
    have br_u7 := hr.cell0
    have br_v7 := hr.cell1
    have br_f07 := hr.frozen 0
    have br_f17 := hr.frozen 1
    go_wp2_with fail
    refine bodyPost_ret (v := .agg #[.bool s', .slice A' n' c']) (by simp [results, Try.results99, go_sem, (hr.set0 (.bool s')).cell0, ((hr.set0 (.bool s')).set1 (.slice A' n' c')).cell1]) rfl (gi_end hF (by omega) hr hk)
end Go.Proofs.Ytabgniijlofapaa

/-
  The specification's positive: where the lower end is an integer.
-/
namespace Go.Proofs.Ytabgniijlofapaa
open Go.RowKit
set_option linter.unusedVariables false
set_option linter.unusedSimpArgs false

theorem Iq.storQ {w : World} {g : Nat} {s0 : Bool} {A0 B0 : Option Addr} {n0 c0 m0 d0 : Nat} {s : Bool} {A B : Option Addr} {n c m d : Nat} {q : Rat} (h : Iq w s A n c B m d q) (hs : Sq w g (.bool s0) (.slice A0 n0 c0) (.slice B0 m0 d0)) (u0 u1 u2 : Value) :
    Iq (((w.setCell ⟨g, 0, none⟩ u0).setCell ⟨g, 1, none⟩ u1).setCell ⟨g, 2, none⟩ u2) s A n c B m d q := by
  obtain ⟨xs, ys, h1, h2, h3⟩ := h
  exact ⟨xs, ys, h1.storQ hs _ _ _, h2.storQ hs _ _ _, h3⟩
theorem Cq.small {w : World} {s : Bool} {A B : Option Addr} {n c m d k : Nat} {q : Rat} (h : Cq w s A n c B m d q) (hs : Qs k q) (hk : k ≤ 4000) : n ≤ 4000 ∧ m ≤ 4000 := ⟨Nat.le_trans (h.ln hs.1) hk, Nat.le_trans (h.ld hs.2) hk⟩
theorem Cq.tiny {w : World} {s : Bool} {A B : Option Addr} {n c m d k : Nat} {q : Rat} (h : Cq w s A n c B m d q) (hs : Qs k q) : n ≤ k ∧ m ≤ k := ⟨h.ln hs.1, h.ld hs.2⟩
theorem size_one {k : Nat} (hk : 1 ≤ k) : Qs k 1 := ⟨Nat.lt_of_lt_of_le (by decide : (1 : Rat).num.natAbs < pw 1) (pw_mono hk), Nat.lt_of_lt_of_le (by decide : (1 : Rat).den < pw 1) (pw_mono hk)⟩
theorem size_floor {k : Nat} {q : Rat} (h : Qs k q) (hk : 1 ≤ k) (f : Int) (hf : qfl q = f) : Qs k (f : Rat) := by
  subst hf
  refine ⟨?_, Nat.lt_of_lt_of_le (by simpa using (by decide : 1 < pw 1)) (pw_mono hk)⟩
  exact Nat.lt_of_le_of_lt (show ((qfl q : Int) : Rat).num.natAbs ≤ q.num.natAbs from Int.natAbs_ediv_le_natAbs q.num q.den) h.1
theorem cmp_eq {p q : Rat} : sz (p - q).num = 0 ↔ p = q := by
  have e : sz (p - q).num = 0 ↔ (p - q).num = 0 := by
    unfold sz
    (repeat' split) <;> omega
  rw [e, num_zero]
  constructor <;> intro h <;> grind
theorem rone_q (w : World) : Calls Try.prog 32 #[.int .i64 1] w (GQ w 1) := by
  have := rof_q 1 w (by omega) (by omega)
  rwa [show ((1 : Int) : Rat) = 1 from rfl] at this
theorem pos_int (s t : Bool) (A B A' B' : Option Addr) (n c m d n' c' m' d' : Nat) (p q : Rat) (fl : Int) (w : World) (K : Nat) (hK : K ≤ 1000) (hK1 : 1 ≤ K) (hs : Qs K p) (ht : Qs K q) (hf : qfl p = fl) (h : Iq w s A n c B m d p) (k : Iq w t A' n' c' B' m' d' q) (hn : n ≤ K) (hm : m ≤ K) (hn' : n' ≤ K) (hm' : m' ≤ K) (h1 : (fl : Rat) = p) :
    Calls Try.prog 74 #[.agg #[.bool s, .slice A n c, .slice B m d], .agg #[.bool t, .slice A' n' c', .slice B' m' d']] w (GQ w p) := by
  have hsf := size_floor hs hK1 fl hf
  have ln : n ≤ 4000 := by omega
  have lm : m ≤ 4000 := by omega
  have ln' : n' ≤ 4000 := by omega
  have lm' : m' ≤ 4000 := by omega
  have k4 : K ≤ 4000 := by omega
  have k16 : K ≤ 16384 := by omega
  have hsf1 : (fl : Rat).num.natAbs < pw K := hsf.1
  have HF := hide hf
  have HC := hide (show sz ((fl : Rat) - p).num = 0 from cmp_eq.2 h1)
  have H1 := hide h1
  have hp := h
  have hq := k
  clear hf h1 h k
  have hp_1 := hp.alloc (EQ s A n c B m d)
  have hq_1 := hq.alloc (EQ s A n c B m d)
  have ba_1 : Sq ((w).alloc (EQ s A n c B m d)) (w.heap.size) (.bool s) (.slice A n c) (.slice B m d) := by have h_ := Sq.new (w) (.bool s) (.slice A n c) (.slice B m d); exact h_
  have F1 := (Below.refl w.heap.size w).alloc (Nat.le_refl _) (EQ s A n c B m d)
  have hp_2 := hp_1.alloc (EQ t A' n' c' B' m' d')
  have hq_2 := hq_1.alloc (EQ t A' n' c' B' m' d')
  have ba_2 := ba_1.alloc (EQ t A' n' c' B' m' d')
  have bb_2 : Sq (((w).alloc (EQ s A n c B m d)).alloc (EQ t A' n' c' B' m' d')) (w.heap.size + 1) (.bool t) (.slice A' n' c') (.slice B' m' d') := by have h_ := Sq.new ((w).alloc (EQ s A n c B m d)) (.bool t) (.slice A' n' c') (.slice B' m' d'); simp only [World.size_alloc] at h_; exact h_
  have F2 := F1.alloc F1.size (EQ t A' n' c' B' m' d')
  have hp_3 := hp_2.alloc EQ0
  have hq_3 := hq_2.alloc EQ0
  have ba_3 := ba_2.alloc EQ0
  have bb_3 := bb_2.alloc EQ0
  have br_3 : Sq ((((w).alloc (EQ s A n c B m d)).alloc (EQ t A' n' c' B' m' d')).alloc EQ0) (w.heap.size + 2) (.bool false) (.slice none 0 0) (.slice none 0 0) := by have h_ := Sq.new (((w).alloc (EQ s A n c B m d)).alloc (EQ t A' n' c' B' m' d')) (.bool false) (.slice none 0 0) (.slice none 0 0); simp only [World.size_alloc] at h_; exact h_
  have F3 := F2.alloc F2.size EQ0
  go_enter Try.func74, Try.ntmps74
  go_wp2_with fail
  refine (rfloor_q _ _ _ _ _ _ _ _ fl _ HF.out hp_3 ln lm).mono ?_
  rintro e w4 ⟨s4, A4, n4, c4, rfl, zf, b4⟩
  have hp_4 := hp_3.below b4
  have hq_4 := hq_3.below b4
  have ba_4 := ba_3.below b4 ba_3.lt
  have bb_4 := bb_3.below b4 bb_3.lt
  have br_4 := br_3.below b4 br_3.lt
  have F4 := below_then F3 (Nat.le_refl _) b4
  have ba_u4 := ba_4.cell0
  have ba_v4 := ba_4.cell1
  have ba_w4 := ba_4.cell2
  have bb_u4 := bb_4.cell0
  have bb_v4 := bb_4.cell1
  have bb_w4 := bb_4.cell2
  have br_u4 := br_4.cell0
  have br_v4 := br_4.cell1
  have br_w4 := br_4.cell2
  have lzf := Nat.le_trans (zf.len hsf1) k16
  go_wp2_with fail
  refine (rwhole_q _ _ _ _ fl _ zf.iz lzf).mono ?_
  rintro e w5 ⟨s5, A5, n5, c5, B5, m5, d5, rfl, f, b5⟩
  have hp_5 := hp_4.below b5
  have hq_5 := hq_4.below b5
  have zf_5 := zf.below b5
  have ba_5 := ba_4.below b5 ba_4.lt
  have bb_5 := bb_4.below b5 bb_4.lt
  have br_5 := br_4.below b5 br_4.lt
  have F5 := below_then F4 (Nat.le_refl _) b5
  have ba_u5 := ba_5.cell0
  have ba_v5 := ba_5.cell1
  have ba_w5 := ba_5.cell2
  have bb_u5 := bb_5.cell0
  have bb_v5 := bb_5.cell1
  have bb_w5 := bb_5.cell2
  have br_u5 := br_5.cell0
  have br_v5 := br_5.cell1
  have br_w5 := br_5.cell2
  have lf := f.small hsf k4
  have lt_bf_ba := ba_5.lt
  have lt_bf_bb := bb_5.lt
  have lt_bf_br := br_5.lt
  have hp_6 := hp_5.alloc (EQ s5 A5 n5 c5 B5 m5 d5)
  have hq_6 := hq_5.alloc (EQ s5 A5 n5 c5 B5 m5 d5)
  have f_6 := f.alloc (EQ s5 A5 n5 c5 B5 m5 d5)
  have ba_6 := ba_5.alloc (EQ s5 A5 n5 c5 B5 m5 d5)
  have bb_6 := bb_5.alloc (EQ s5 A5 n5 c5 B5 m5 d5)
  have br_6 := br_5.alloc (EQ s5 A5 n5 c5 B5 m5 d5)
  have bf_6 : Sq ((w5).alloc (EQ s5 A5 n5 c5 B5 m5 d5)) (w5.heap.size) (.bool s5) (.slice A5 n5 c5) (.slice B5 m5 d5) := by have h_ := Sq.new (w5) (.bool s5) (.slice A5 n5 c5) (.slice B5 m5 d5); exact h_
  have F6 := F5.alloc F5.size (EQ s5 A5 n5 c5 B5 m5 d5)
  have ba_u6 := ba_6.cell0
  have ba_v6 := ba_6.cell1
  have ba_w6 := ba_6.cell2
  have bb_u6 := bb_6.cell0
  have bb_v6 := bb_6.cell1
  have bb_w6 := bb_6.cell2
  have br_u6 := br_6.cell0
  have br_v6 := br_6.cell1
  have br_w6 := br_6.cell2
  have bf_u6 := bf_6.cell0
  have bf_v6 := bf_6.cell1
  have bf_w6 := bf_6.cell2
  go_wp2_with fail
  refine (rcmp_q _ _ _ _ _ _ _ _ _ _ _ _ _ _ _ _ _ _ HC.out f_6.iq hp_6 lf.1 lf.2 ln lm).mono ?_
  rintro e w7 ⟨rfl, b7⟩
  have hp_7 := hp_6.below b7
  have hq_7 := hq_6.below b7
  have f_7 := f_6.below b7
  have ba_7 := ba_6.below b7 ba_6.lt
  have bb_7 := bb_6.below b7 bb_6.lt
  have br_7 := br_6.below b7 br_6.lt
  have bf_7 := bf_6.below b7 bf_6.lt
  have F7 := below_then F6 (Nat.le_refl _) b7
  have ba_u7 := ba_7.cell0
  have ba_v7 := ba_7.cell1
  have ba_w7 := ba_7.cell2
  have bb_u7 := bb_7.cell0
  have bb_v7 := bb_7.cell1
  have bb_w7 := bb_7.cell2
  have br_u7 := br_7.cell0
  have br_v7 := br_7.cell1
  have br_w7 := br_7.cell2
  have bf_u7 := bf_7.cell0
  have bf_v7 := bf_7.cell1
  have bf_w7 := bf_7.cell2
  have br_f07 := br_7.frozen 0
  have br_f17 := br_7.frozen 1
  have br_f27 := br_7.frozen 2
  go_wp2_with fail
  refine bodyPost_ret (v := .agg #[.bool s5, .slice A5 n5 c5, .slice B5 m5 d5]) (by simp [results, Try.results74, go_sem, (br_7.set0 (.bool s5)).cell0, ((br_7.set0 (.bool s5)).set1 (.slice A5 n5 c5)).cell1, (((br_7.set0 (.bool s5)).set1 (.slice A5 n5 c5)).set2 (.slice B5 m5 d5)).cell2]) rfl (gq_end F7 (by omega) br_7 (f_7.to H1.out))
set_option maxHeartbeats 2000000 in
set_option maxRecDepth 20000 in
theorem pos_up (s t : Bool) (A B A' B' : Option Addr) (n c m d n' c' m' d' : Nat) (p q : Rat) (fl : Int) (w : World) (K : Nat) (hK : K ≤ 1000) (hK1 : 1 ≤ K) (hs : Qs K p) (ht : Qs K q) (hf : qfl p = fl) (h : Iq w s A n c B m d p) (k : Iq w t A' n' c' B' m' d' q) (hn : n ≤ K) (hm : m ≤ K) (hn' : n' ≤ K) (hm' : m' ≤ K) (h1 : (fl : Rat) ≠ p) (h2 : (fl : Rat) + 1 ≤ q) :
    Calls Try.prog 74 #[.agg #[.bool s, .slice A n c, .slice B m d], .agg #[.bool t, .slice A' n' c', .slice B' m' d']] w (GQ w ((fl : Rat) + 1)) := by
  have hsf := size_floor hs hK1 fl hf
  have ln : n ≤ 4000 := by omega
  have lm : m ≤ 4000 := by omega
  have ln' : n' ≤ 4000 := by omega
  have lm' : m' ≤ 4000 := by omega
  have k4 : K ≤ 4000 := by omega
  have k16 : K ≤ 16384 := by omega
  have hsf1 : (fl : Rat).num.natAbs < pw K := hsf.1
  have HF := hide hf
  obtain ⟨r, hr⟩ : ∃ r, sz ((fl : Rat) - p).num = r := ⟨_, rfl⟩
  have hr0 : (r == 0) = false := by rw [← hr]; simp only [beq_eq_false_iff_ne]; exact fun e => h1 (cmp_eq.1 e)
  have HC := hide hr
  obtain ⟨u, hu⟩ : ∃ u, (fl : Rat) + 1 = u := ⟨_, rfl⟩
  have su : Qs (K + 1 + 1) u := by rw [← hu]; exact size_add hsf (size_one (Nat.le_refl _))
  have s1 : Qs 1 1 := size_one (Nat.le_refl _)
  have ku : K + 1 + 1 ≤ 4000 := by omega
  have HU := hide hu
  obtain ⟨r2, hr2⟩ : ∃ r, sz (u - q).num = r := ⟨_, rfl⟩
  have HC2 := hide hr2
  have hp := h
  have hq := k
  have d2 : decide (r2 ≤ 0) = true := by rw [← hr2, ← hu]; exact decide_eq_true (cmp_le.2 h2)
  rw [hu]
  clear hf h1 h2 h k hr hu hr2
  have hp_1 := hp.alloc (EQ s A n c B m d)
  have hq_1 := hq.alloc (EQ s A n c B m d)
  have ba_1 : Sq ((w).alloc (EQ s A n c B m d)) (w.heap.size) (.bool s) (.slice A n c) (.slice B m d) := by have h_ := Sq.new (w) (.bool s) (.slice A n c) (.slice B m d); exact h_
  have F1 := (Below.refl w.heap.size w).alloc (Nat.le_refl _) (EQ s A n c B m d)
  have hp_2 := hp_1.alloc (EQ t A' n' c' B' m' d')
  have hq_2 := hq_1.alloc (EQ t A' n' c' B' m' d')
  have ba_2 := ba_1.alloc (EQ t A' n' c' B' m' d')
  have bb_2 : Sq (((w).alloc (EQ s A n c B m d)).alloc (EQ t A' n' c' B' m' d')) (w.heap.size + 1) (.bool t) (.slice A' n' c') (.slice B' m' d') := by have h_ := Sq.new ((w).alloc (EQ s A n c B m d)) (.bool t) (.slice A' n' c') (.slice B' m' d'); simp only [World.size_alloc] at h_; exact h_
  have F2 := F1.alloc F1.size (EQ t A' n' c' B' m' d')
  have hp_3 := hp_2.alloc EQ0
  have hq_3 := hq_2.alloc EQ0
  have ba_3 := ba_2.alloc EQ0
  have bb_3 := bb_2.alloc EQ0
  have br_3 : Sq ((((w).alloc (EQ s A n c B m d)).alloc (EQ t A' n' c' B' m' d')).alloc EQ0) (w.heap.size + 2) (.bool false) (.slice none 0 0) (.slice none 0 0) := by have h_ := Sq.new (((w).alloc (EQ s A n c B m d)).alloc (EQ t A' n' c' B' m' d')) (.bool false) (.slice none 0 0) (.slice none 0 0); simp only [World.size_alloc] at h_; exact h_
  have F3 := F2.alloc F2.size EQ0
  go_enter Try.func74, Try.ntmps74
  go_wp2_with fail
  refine (rfloor_q _ _ _ _ _ _ _ _ fl _ HF.out hp_3 ln lm).mono ?_
  rintro e w4 ⟨s4, A4, n4, c4, rfl, zf, b4⟩
  have hp_4 := hp_3.below b4
  have hq_4 := hq_3.below b4
  have ba_4 := ba_3.below b4 ba_3.lt
  have bb_4 := bb_3.below b4 bb_3.lt
  have br_4 := br_3.below b4 br_3.lt
  have F4 := below_then F3 (Nat.le_refl _) b4
  have ba_u4 := ba_4.cell0
  have ba_v4 := ba_4.cell1
  have ba_w4 := ba_4.cell2
  have bb_u4 := bb_4.cell0
  have bb_v4 := bb_4.cell1
  have bb_w4 := bb_4.cell2
  have br_u4 := br_4.cell0
  have br_v4 := br_4.cell1
  have br_w4 := br_4.cell2
  have lzf := Nat.le_trans (zf.len hsf1) k16
  go_wp2_with fail
  refine (rwhole_q _ _ _ _ fl _ zf.iz lzf).mono ?_
  rintro e w5 ⟨s5, A5, n5, c5, B5, m5, d5, rfl, f, b5⟩
  have hp_5 := hp_4.below b5
  have hq_5 := hq_4.below b5
  have zf_5 := zf.below b5
  have ba_5 := ba_4.below b5 ba_4.lt
  have bb_5 := bb_4.below b5 bb_4.lt
  have br_5 := br_4.below b5 br_4.lt
  have F5 := below_then F4 (Nat.le_refl _) b5
  have ba_u5 := ba_5.cell0
  have ba_v5 := ba_5.cell1
  have ba_w5 := ba_5.cell2
  have bb_u5 := bb_5.cell0
  have bb_v5 := bb_5.cell1
  have bb_w5 := bb_5.cell2
  have br_u5 := br_5.cell0
  have br_v5 := br_5.cell1
  have br_w5 := br_5.cell2
  have lf := f.small hsf k4
  have lt_bf_ba := ba_5.lt
  have lt_bf_bb := bb_5.lt
  have lt_bf_br := br_5.lt
  have hp_6 := hp_5.alloc (EQ s5 A5 n5 c5 B5 m5 d5)
  have hq_6 := hq_5.alloc (EQ s5 A5 n5 c5 B5 m5 d5)
  have f_6 := f.alloc (EQ s5 A5 n5 c5 B5 m5 d5)
  have ba_6 := ba_5.alloc (EQ s5 A5 n5 c5 B5 m5 d5)
  have bb_6 := bb_5.alloc (EQ s5 A5 n5 c5 B5 m5 d5)
  have br_6 := br_5.alloc (EQ s5 A5 n5 c5 B5 m5 d5)
  have bf_6 : Sq ((w5).alloc (EQ s5 A5 n5 c5 B5 m5 d5)) (w5.heap.size) (.bool s5) (.slice A5 n5 c5) (.slice B5 m5 d5) := by have h_ := Sq.new (w5) (.bool s5) (.slice A5 n5 c5) (.slice B5 m5 d5); exact h_
  have F6 := F5.alloc F5.size (EQ s5 A5 n5 c5 B5 m5 d5)
  have ba_u6 := ba_6.cell0
  have ba_v6 := ba_6.cell1
  have ba_w6 := ba_6.cell2
  have bb_u6 := bb_6.cell0
  have bb_v6 := bb_6.cell1
  have bb_w6 := bb_6.cell2
  have br_u6 := br_6.cell0
  have br_v6 := br_6.cell1
  have br_w6 := br_6.cell2
  have bf_u6 := bf_6.cell0
  have bf_v6 := bf_6.cell1
  have bf_w6 := bf_6.cell2
  go_wp2_with fail
  refine (rcmp_q _ _ _ _ _ _ _ _ _ _ _ _ _ _ _ _ _ _ HC.out f_6.iq hp_6 lf.1 lf.2 ln lm).mono ?_
  rintro e w7 ⟨rfl, b7⟩
  have hp_7 := hp_6.below b7
  have hq_7 := hq_6.below b7
  have f_7 := f_6.below b7
  have ba_7 := ba_6.below b7 ba_6.lt
  have bb_7 := bb_6.below b7 bb_6.lt
  have br_7 := br_6.below b7 br_6.lt
  have bf_7 := bf_6.below b7 bf_6.lt
  have F7 := below_then F6 (Nat.le_refl _) b7
  have ba_u7 := ba_7.cell0
  have ba_v7 := ba_7.cell1
  have ba_w7 := ba_7.cell2
  have bb_u7 := bb_7.cell0
  have bb_v7 := bb_7.cell1
  have bb_w7 := bb_7.cell2
  have br_u7 := br_7.cell0
  have br_v7 := br_7.cell1
  have br_w7 := br_7.cell2
  have bf_u7 := bf_7.cell0
  have bf_v7 := bf_7.cell1
  have bf_w7 := bf_7.cell2
  go_upto_region 4 with fail
  go_cut [6] (fun sx7 wy => ∃ (wx7 : World) (g : Nat) (s9 : Bool) (A9 : Option Addr) (n9 : Nat) (c9 : Nat) (B9 : Option Addr) (m9 : Nat) (d9 : Nat) (s10 : Bool) (A10 : Option Addr) (n10 : Nat) (c10 : Nat) (B10 : Option Addr) (m10 : Nat) (d10 : Nat), wx7 = wy ∧ sx7 = .pointer (some ⟨g, 0, none⟩) ∧ Sq wx7 g (.bool s10) (.slice A10 n10 c10) (.slice B10 m10 d10) ∧ w.heap.size ≤ g ∧ w.heap.size < g ∧ w.heap.size + 1 < g ∧ w.heap.size + 2 < g ∧ w5.heap.size < g ∧ Sq wx7 (w.heap.size) (.bool s) (.slice A n c) (.slice B m d) ∧ Sq wx7 (w.heap.size + 1) (.bool t) (.slice A' n' c') (.slice B' m' d') ∧ Sq wx7 (w.heap.size + 2) (.bool false) (.slice none 0 0) (.slice none 0 0) ∧ Sq wx7 (w5.heap.size) (.bool s5) (.slice A5 n5 c5) (.slice B5 m5 d5) ∧ Iq wx7 s A n c B m d p ∧ Iq wx7 t A' n' c' B' m' d' q ∧ Cq wx7 s5 A5 n5 c5 B5 m5 d5 (fl : Rat) ∧ Cq wx7 s10 A10 n10 c10 B10 m10 d10 u ∧ Below w.heap.size w wx7)
  case first =>
    have hp_8 := hp_7.drew
    have hq_8 := hq_7.drew
    have f_8 := f_7.drew
    have ba_8 := ba_7.drew
    have bb_8 := bb_7.drew
    have br_8 := br_7.drew
    have bf_8 := bf_7.drew
    have F8 := F7.drew
    have hp_z0 := (hp_7.alloc EQ0).drew
    have hq_z0 := (hq_7.alloc EQ0).drew
    have f_z0 := (f_7.alloc EQ0).drew
    have ba_z0 := (ba_7.alloc EQ0).drew
    have bb_z0 := (bb_7.alloc EQ0).drew
    have br_z0 := (br_7.alloc EQ0).drew
    have bf_z0 := (bf_7.alloc EQ0).drew
    have lz_ba := ba_7.lt
    have lz_bb := bb_7.lt
    have lz_br := br_7.lt
    have lz_bf := bf_7.lt
    have gl := F7.size
    have F_z0 := (F7.alloc F7.size EQ0).drew
    have zb_0 : Sq ((w7).alloc EQ0).drew (w7.heap.size) (.bool false) (.slice none 0 0) (.slice none 0 0) := by have h_ := Sq.new (w7) (.bool false) (.slice none 0 0) (.slice none 0 0); exact h_.drew
    go_region_held3 (fun w' => w'.cell? ⟨w5.heap.size, 0, none⟩ = some (.bool s5) ∧ w'.cell? ⟨w5.heap.size, 1, none⟩ = some (.slice A5 n5 c5) ∧ w'.cell? ⟨w5.heap.size, 2, none⟩ = some (.slice B5 m5 d5))
      (first
        | with_reducible exact ⟨(bf_10.alloc (EQ s10 A10 n10 c10 B10 m10 d10)).cell0, (bf_10.alloc (EQ s10 A10 n10 c10 B10 m10 d10)).cell1, (bf_10.alloc (EQ s10 A10 n10 c10 B10 m10 d10)).cell2⟩
        | with_reducible exact ⟨(bf_10.past (u0 := .bool s10) (u1 := .slice A10 n10 c10) (u2 := .slice B10 m10 d10) (Nat.ne_of_lt lz_bf)).cell0, (bf_10.past (u0 := .bool s10) (u1 := .slice A10 n10 c10) (u2 := .slice B10 m10 d10) (Nat.ne_of_lt lz_bf)).cell1, (bf_10.past (u0 := .bool s10) (u1 := .slice A10 n10 c10) (u2 := .slice B10 m10 d10) (Nat.ne_of_lt lz_bf)).cell2⟩
        | with_reducible exact ⟨(bf_10.alloc EQ0).cell0, (bf_10.alloc EQ0).cell1, (bf_10.alloc EQ0).cell2⟩
        | with_reducible exact ⟨bf_10.cell0, bf_10.cell1, bf_10.cell2⟩
        | with_reducible exact ⟨bf_9.alloc EQ0 |>.cell0, bf_9.alloc EQ0 |>.cell1, bf_9.alloc EQ0 |>.cell2⟩
        | with_reducible exact ⟨(bf_9.alloc EQ0).cell0, (bf_9.alloc EQ0).cell1, (bf_9.alloc EQ0).cell2⟩
        | with_reducible exact ⟨bf_9.cell0, bf_9.cell1, bf_9.cell2⟩
        | with_reducible exact ⟨bf_z0.cell0, bf_z0.cell1, bf_z0.cell2⟩
        | with_reducible exact ⟨bf_8.cell0, bf_8.cell1, bf_8.cell2⟩
        | fail)
      (first
        | (go_at_call 32; (with_reducible refine (rone_q _).mono ?_); rintro e w9 ⟨s9, A9, n9, c9, B9, m9, d9, rfl, one, b9⟩; have hp_9 := hp_8.below b9; have hq_9 := hq_8.below b9; have f_9 := f_8.below b9; have ba_9 := ba_8.below b9 ba_8.lt; have bb_9 := bb_8.below b9 bb_8.lt; have br_9 := br_8.below b9 br_8.lt; have bf_9 := bf_8.below b9 bf_8.lt; have F9 := below_then F8 (Nat.le_refl _) b9; have lo1 := one.small s1 (show 1 ≤ 4000 by omega))
        | (go_at_call 32; (with_reducible refine (rone_q _).mono ?_); rintro e w9 ⟨s9, A9, n9, c9, B9, m9, d9, rfl, one, b9⟩; have hp_9 := hp_z0.below b9; have hq_9 := hq_z0.below b9; have f_9 := f_z0.below b9; have ba_9 := ba_z0.below b9 ba_z0.lt; have bb_9 := bb_z0.below b9 bb_z0.lt; have br_9 := br_z0.below b9 br_z0.lt; have bf_9 := bf_z0.below b9 bf_z0.lt; have F9 := below_then F_z0 (Nat.le_refl _) b9; have zb_9 := zb_0.below b9 zb_0.lt; have lo1 := one.small s1 (show 1 ≤ 4000 by omega))
        | (go_at_call 34; (with_reducible refine (radd_q _ _ _ _ _ _ _ _ _ _ _ _ _ _ _ _ _ _ HU.out f_9.iq one.iq lf.1 lf.2 lo1.1 lo1.2).mono ?_); rintro e w10 ⟨s10, A10, n10, c10, B10, m10, d10, rfl, up, b10⟩; have hp_10 := hp_9.below b10; have hq_10 := hq_9.below b10; have f_10 := f_9.below b10; have one_10 := one.below b10; have ba_10 := ba_9.below b10 ba_9.lt; have bb_10 := bb_9.below b10 bb_9.lt; have br_10 := br_9.below b10 br_9.lt; have bf_10 := bf_9.below b10 bf_9.lt; have F10 := below_then F9 (Nat.le_refl _) b10; have zb_10 := zb_9.below b10 zb_9.lt; have zk10_0 := zb_10.cell0; have zk10_1 := zb_10.cell1; have zk10_2 := zb_10.cell2; have zf10_0 := zb_10.frozen 0; have zf10_1 := zb_10.frozen 1; have zf10_2 := zb_10.frozen 2)
        | (go_at_call 34; (with_reducible refine (radd_q _ _ _ _ _ _ _ _ _ _ _ _ _ _ _ _ _ _ HU.out f_9.iq one.iq lf.1 lf.2 lo1.1 lo1.2).mono ?_); rintro e w10 ⟨s10, A10, n10, c10, B10, m10, d10, rfl, up, b10⟩; have hp_10 := hp_9.below b10; have hq_10 := hq_9.below b10; have f_10 := f_9.below b10; have one_10 := one.below b10; have ba_10 := ba_9.below b10 ba_9.lt; have bb_10 := bb_9.below b10 bb_9.lt; have br_10 := br_9.below b10 br_9.lt; have bf_10 := bf_9.below b10 bf_9.lt; have F10 := below_then F9 (Nat.le_refl _) b10)
        | (have hp_z10 := hp_9.alloc EQ0; have hq_z10 := hq_9.alloc EQ0; have f_z10 := f_9.alloc EQ0; have one_z10 := one.alloc EQ0; have ba_z10 := ba_9.alloc EQ0; have bb_z10 := bb_9.alloc EQ0; have br_z10 := br_9.alloc EQ0; have bf_z10 := bf_9.alloc EQ0; have lz_ba := ba_9.lt; have lz_bb := bb_9.lt; have lz_br := br_9.lt; have lz_bf := bf_9.lt; have gl := F9.size; have F_z10 := F9.alloc F9.size EQ0; have zb_9 := Sq.new (w9) (.bool false) (.slice none 0 0) (.slice none 0 0); go_at_call 34; (with_reducible refine (radd_q _ _ _ _ _ _ _ _ _ _ _ _ _ _ _ _ _ _ HU.out f_z10.iq one_z10.iq lf.1 lf.2 lo1.1 lo1.2).mono ?_); rintro e w10 ⟨s10, A10, n10, c10, B10, m10, d10, rfl, up, b10⟩; have hp_10 := hp_z10.below b10; have hq_10 := hq_z10.below b10; have f_10 := f_z10.below b10; have one_10 := one_z10.below b10; have ba_10 := ba_z10.below b10 ba_z10.lt; have bb_10 := bb_z10.below b10 bb_z10.lt; have br_10 := br_z10.below b10 br_z10.lt; have bf_10 := bf_z10.below b10 bf_z10.lt; have F10 := below_then F_z10 (Nat.le_refl _) b10; have zb_10 := zb_9.below b10 zb_9.lt; have zk10_0 := zb_10.cell0; have zk10_1 := zb_10.cell1; have zk10_2 := zb_10.cell2; have zf10_0 := zb_10.frozen 0; have zf10_1 := zb_10.frozen 1; have zf10_2 := zb_10.frozen 2)
        | fail)
    all_goals (go_wp2_with fail; go_meet; first | exact ⟨_, _, s9, A9, n9, c9, B9, m9, d9, s10, A10, n10, c10, B10, m10, d10, rfl, rfl, zb_10.stor, gl, lz_ba, lz_bb, lz_br, lz_bf, ba_10.past (Nat.ne_of_lt lz_ba), bb_10.past (Nat.ne_of_lt lz_bb), br_10.past (Nat.ne_of_lt lz_br), bf_10.past (Nat.ne_of_lt lz_bf), hp_10.storQ zb_10 (.bool s10) (.slice A10 n10 c10) (.slice B10 m10 d10), hq_10.storQ zb_10 (.bool s10) (.slice A10 n10 c10) (.slice B10 m10 d10), f_10.storQ zb_10 (.bool s10) (.slice A10 n10 c10) (.slice B10 m10 d10), up.storQ zb_10 (.bool s10) (.slice A10 n10 c10) (.slice B10 m10 d10), below_storQ F10 gl⟩ | exact ⟨_, _, s9, A9, n9, c9, B9, m9, d9, s10, A10, n10, c10, B10, m10, d10, rfl, rfl, Sq.new w10 (.bool s10) (.slice A10 n10 c10) (.slice B10 m10 d10), F10.size, ba_10.lt, bb_10.lt, br_10.lt, bf_10.lt, ba_10.alloc (EQ s10 A10 n10 c10 B10 m10 d10), bb_10.alloc (EQ s10 A10 n10 c10 B10 m10 d10), br_10.alloc (EQ s10 A10 n10 c10 B10 m10 d10), bf_10.alloc (EQ s10 A10 n10 c10 B10 m10 d10), hp_10.alloc (EQ s10 A10 n10 c10 B10 m10 d10), hq_10.alloc (EQ s10 A10 n10 c10 B10 m10 d10), f_10.alloc (EQ s10 A10 n10 c10 B10 m10 d10), up.alloc (EQ s10 A10 n10 c10 B10 m10 d10), F10.alloc F10.size _⟩ | fail)
  case rest =>
    obtain ⟨wx7, g11, s9, A9, n9, c9, B9, m9, d9, s10, A10, n10, c10, B10, m10, d10, rfl, rfl, bu_11, gl_11, lt_bu_ba, lt_bu_bb, lt_bu_br, lt_bu_bf, ba_11, bb_11, br_11, bf_11, hp_11, hq_11, f_11, up_11, F11⟩ := hcut
    have lu := up_11.small su ku
    have ba_u11 := ba_11.cell0
    have ba_v11 := ba_11.cell1
    have ba_w11 := ba_11.cell2
    have bb_u11 := bb_11.cell0
    have bb_v11 := bb_11.cell1
    have bb_w11 := bb_11.cell2
    have br_u11 := br_11.cell0
    have br_v11 := br_11.cell1
    have br_w11 := br_11.cell2
    have bf_u11 := bf_11.cell0
    have bf_v11 := bf_11.cell1
    have bf_w11 := bf_11.cell2
    have bu_u11 := bu_11.cell0
    have bu_v11 := bu_11.cell1
    have bu_w11 := bu_11.cell2
    go_wp2_with fail
    refine (rcmp_q _ _ _ _ _ _ _ _ _ _ _ _ _ _ _ _ _ _ HC2.out up_11.iq hq_11 lu.1 lu.2 ln' lm').mono ?_
    rintro e w12 ⟨rfl, b12⟩
    have hp_12 := hp_11.below b12
    have hq_12 := hq_11.below b12
    have f_12 := f_11.below b12
    have up_12 := up_11.below b12
    have ba_12 := ba_11.below b12 ba_11.lt
    have bb_12 := bb_11.below b12 bb_11.lt
    have br_12 := br_11.below b12 br_11.lt
    have bf_12 := bf_11.below b12 bf_11.lt
    have bu_12 := bu_11.below b12 bu_11.lt
    have F12 := below_then F11 (Nat.le_refl _) b12
    have ba_u12 := ba_12.cell0
    have ba_v12 := ba_12.cell1
    have ba_w12 := ba_12.cell2
    have bb_u12 := bb_12.cell0
    have bb_v12 := bb_12.cell1
    have bb_w12 := bb_12.cell2
    have br_u12 := br_12.cell0
    have br_v12 := br_12.cell1
    have br_w12 := br_12.cell2
    have bf_u12 := bf_12.cell0
    have bf_v12 := bf_12.cell1
    have bf_w12 := bf_12.cell2
    have bu_u12 := bu_12.cell0
    have bu_v12 := bu_12.cell1
    have bu_w12 := bu_12.cell2
    have br_f012 := br_12.frozen 0
    have br_f112 := br_12.frozen 1
    have br_f212 := br_12.frozen 2
    go_wp2_with fail
    refine bodyPost_ret (v := .agg #[.bool s10, .slice A10 n10 c10, .slice B10 m10 d10]) (by simp [results, Try.results74, go_sem, (br_12.set0 (.bool s10)).cell0, ((br_12.set0 (.bool s10)).set1 (.slice A10 n10 c10)).cell1, (((br_12.set0 (.bool s10)).set1 (.slice A10 n10 c10)).set2 (.slice B10 m10 d10)).cell2]) rfl (gq_end F12 (by omega) br_12 up_12)
end Go.Proofs.Ytabgniijlofapaa

/-
  The specification's positive: the descent.
-/
namespace Go.Proofs.Ytabgniijlofapaa
open Go.RowKit
set_option linter.unusedVariables false
set_option linter.unusedSimpArgs false

theorem size_parts {K : Nat} {x : Rat} {d : Nat} (h1 : x.num = d) (hd : d < pw K) (h2 : x.den < d) : Qs K x := ⟨by rw [h1]; simpa using hd, Nat.lt_trans h2 hd⟩
set_option maxHeartbeats 4000000 in
set_option maxRecDepth 20000 in
theorem pos_rec (s t : Bool) (A B A' B' : Option Addr) (n c m d n' c' m' d' : Nat) (p q : Rat) (fl : Int) (w : World) (K : Nat) (hK : K ≤ 1000) (hK1 : 1 ≤ K) (hs : Qs K p) (ht : Qs K q) (hf : qfl p = fl) (h : Iq w s A n c B m d p) (k : Iq w t A' n' c' B' m' d' q) (hn : n ≤ K) (hm : m ≤ K) (hn' : n' ≤ K) (hm' : m' ≤ K) (h1 : (fl : Rat) ≠ p) (h2 : ¬ (fl : Rat) + 1 ≤ q) (hpq : p ≤ q) (y : Rat) (hy0 : y ≠ 0) (hy : Qs K y)
    (IH : ∀ (s t : Bool) (A B A' B' : Option Addr) (n c m d n' c' m' d' : Nat) (w : World), Iq w s A n c B m d (1 / (q - (fl : Rat))) → Iq w t A' n' c' B' m' d' (1 / (p - (fl : Rat))) → n ≤ K → m ≤ K → n' ≤ K → m' ≤ K → Calls Try.prog 74 #[.agg #[.bool s, .slice A n c, .slice B m d], .agg #[.bool t, .slice A' n' c', .slice B' m' d']] w (GQ w y)) :
    Calls Try.prog 74 #[.agg #[.bool s, .slice A n c, .slice B m d], .agg #[.bool t, .slice A' n' c', .slice B' m' d']] w (GQ w ((fl : Rat) + 1 / y)) := by
  have hsf := size_floor hs hK1 fl hf
  have ln : n ≤ 4000 := by omega
  have lm : m ≤ 4000 := by omega
  have ln' : n' ≤ 4000 := by omega
  have lm' : m' ≤ 4000 := by omega
  have k4 : K ≤ 4000 := by omega
  have k16 : K ≤ 16384 := by omega
  have hsf1 : (fl : Rat).num.natAbs < pw K := hsf.1
  have HF := hide hf
  obtain ⟨r, hr⟩ : ∃ r, sz ((fl : Rat) - p).num = r := ⟨_, rfl⟩
  have hr0 : (r == 0) = false := by rw [← hr]; simp only [beq_eq_false_iff_ne]; exact fun e => h1 (cmp_eq.1 e)
  have HC := hide hr
  obtain ⟨u, hu⟩ : ∃ u, (fl : Rat) + 1 = u := ⟨_, rfl⟩
  have su : Qs (K + 1 + 1) u := by rw [← hu]; exact size_add hsf (size_one (Nat.le_refl _))
  have s1 : Qs 1 1 := size_one (Nat.le_refl _)
  have ku : K + 1 + 1 ≤ 4000 := by omega
  have HU := hide hu
  obtain ⟨r2, hr2⟩ : ∃ r, sz (u - q).num = r := ⟨_, rfl⟩
  have HC2 := hide hr2
  have hp := h
  have hq := k
  have d2 : decide (r2 ≤ 0) = false := by rw [← hr2, ← hu]; exact decide_eq_false fun e => h2 (cmp_le.1 e)
  obtain ⟨t1, t2, t3, t4, t5, t6, t7, t8, t9⟩ := step_facts fl hf hpq h1 h2
  have sa : Qs K (1 / (q - (fl : Rat))) := size_parts t8 ht.2 t6
  have sb : Qs K (1 / (p - (fl : Rat))) := size_parts t9 hs.2 t7
  have sq : Qs (K + K + 1) (q - (fl : Rat)) := size_sub ht hsf
  have sp : Qs (K + K + 1) (p - (fl : Rat)) := size_sub hs hsf
  have kq : K + K + 1 ≤ 4000 := by omega
  have nq : q - (fl : Rat) ≠ 0 := fun e => by rw [e] at t2; exact absurd (lt_le t1 t2) (by decide)
  have np : p - (fl : Rat) ≠ 0 := fun e => by rw [e] at t1; exact absurd t1 (by decide)
  have sy : Qs (1 + K) (1 / y) := size_div (size_one (Nat.le_refl _)) hy hK1
  have ky : 1 + K ≤ 4000 := by omega
  have HIH := hide IH
  clear hf h1 h2 h k hr hu hr2 t1 t2 t3 t4 t5 t6 t7 t8 t9 IH hpq
  have hp_1 := hp.alloc (EQ s A n c B m d)
  have hq_1 := hq.alloc (EQ s A n c B m d)
  have ba_1 : Sq ((w).alloc (EQ s A n c B m d)) (w.heap.size) (.bool s) (.slice A n c) (.slice B m d) := by have h_ := Sq.new (w) (.bool s) (.slice A n c) (.slice B m d); exact h_
  have F1 := (Below.refl w.heap.size w).alloc (Nat.le_refl _) (EQ s A n c B m d)
  have hp_2 := hp_1.alloc (EQ t A' n' c' B' m' d')
  have hq_2 := hq_1.alloc (EQ t A' n' c' B' m' d')
  have ba_2 := ba_1.alloc (EQ t A' n' c' B' m' d')
  have bb_2 : Sq (((w).alloc (EQ s A n c B m d)).alloc (EQ t A' n' c' B' m' d')) (w.heap.size + 1) (.bool t) (.slice A' n' c') (.slice B' m' d') := by have h_ := Sq.new ((w).alloc (EQ s A n c B m d)) (.bool t) (.slice A' n' c') (.slice B' m' d'); simp only [World.size_alloc] at h_; exact h_
  have F2 := F1.alloc F1.size (EQ t A' n' c' B' m' d')
  have hp_3 := hp_2.alloc EQ0
  have hq_3 := hq_2.alloc EQ0
  have ba_3 := ba_2.alloc EQ0
  have bb_3 := bb_2.alloc EQ0
  have br_3 : Sq ((((w).alloc (EQ s A n c B m d)).alloc (EQ t A' n' c' B' m' d')).alloc EQ0) (w.heap.size + 2) (.bool false) (.slice none 0 0) (.slice none 0 0) := by have h_ := Sq.new (((w).alloc (EQ s A n c B m d)).alloc (EQ t A' n' c' B' m' d')) (.bool false) (.slice none 0 0) (.slice none 0 0); simp only [World.size_alloc] at h_; exact h_
  have F3 := F2.alloc F2.size EQ0
  go_enter Try.func74, Try.ntmps74
  go_wp2_with fail
  refine (rfloor_q _ _ _ _ _ _ _ _ fl _ HF.out hp_3 ln lm).mono ?_
  rintro e w4 ⟨s4, A4, n4, c4, rfl, zf, b4⟩
  have hp_4 := hp_3.below b4
  have hq_4 := hq_3.below b4
  have ba_4 := ba_3.below b4 ba_3.lt
  have bb_4 := bb_3.below b4 bb_3.lt
  have br_4 := br_3.below b4 br_3.lt
  have F4 := below_then F3 (Nat.le_refl _) b4
  have ba_u4 := ba_4.cell0
  have ba_v4 := ba_4.cell1
  have ba_w4 := ba_4.cell2
  have bb_u4 := bb_4.cell0
  have bb_v4 := bb_4.cell1
  have bb_w4 := bb_4.cell2
  have br_u4 := br_4.cell0
  have br_v4 := br_4.cell1
  have br_w4 := br_4.cell2
  have lzf := Nat.le_trans (zf.len hsf1) k16
  go_wp2_with fail
  refine (rwhole_q _ _ _ _ fl _ zf.iz lzf).mono ?_
  rintro e w5 ⟨s5, A5, n5, c5, B5, m5, d5, rfl, f, b5⟩
  have hp_5 := hp_4.below b5
  have hq_5 := hq_4.below b5
  have zf_5 := zf.below b5
  have ba_5 := ba_4.below b5 ba_4.lt
  have bb_5 := bb_4.below b5 bb_4.lt
  have br_5 := br_4.below b5 br_4.lt
  have F5 := below_then F4 (Nat.le_refl _) b5
  have ba_u5 := ba_5.cell0
  have ba_v5 := ba_5.cell1
  have ba_w5 := ba_5.cell2
  have bb_u5 := bb_5.cell0
  have bb_v5 := bb_5.cell1
  have bb_w5 := bb_5.cell2
  have br_u5 := br_5.cell0
  have br_v5 := br_5.cell1
  have br_w5 := br_5.cell2
  have lf := f.small hsf k4
  have lt_bf_ba := ba_5.lt
  have lt_bf_bb := bb_5.lt
  have lt_bf_br := br_5.lt
  have hp_6 := hp_5.alloc (EQ s5 A5 n5 c5 B5 m5 d5)
  have hq_6 := hq_5.alloc (EQ s5 A5 n5 c5 B5 m5 d5)
  have f_6 := f.alloc (EQ s5 A5 n5 c5 B5 m5 d5)
  have ba_6 := ba_5.alloc (EQ s5 A5 n5 c5 B5 m5 d5)
  have bb_6 := bb_5.alloc (EQ s5 A5 n5 c5 B5 m5 d5)
  have br_6 := br_5.alloc (EQ s5 A5 n5 c5 B5 m5 d5)
  have bf_6 : Sq ((w5).alloc (EQ s5 A5 n5 c5 B5 m5 d5)) (w5.heap.size) (.bool s5) (.slice A5 n5 c5) (.slice B5 m5 d5) := by have h_ := Sq.new (w5) (.bool s5) (.slice A5 n5 c5) (.slice B5 m5 d5); exact h_
  have F6 := F5.alloc F5.size (EQ s5 A5 n5 c5 B5 m5 d5)
  have ba_u6 := ba_6.cell0
  have ba_v6 := ba_6.cell1
  have ba_w6 := ba_6.cell2
  have bb_u6 := bb_6.cell0
  have bb_v6 := bb_6.cell1
  have bb_w6 := bb_6.cell2
  have br_u6 := br_6.cell0
  have br_v6 := br_6.cell1
  have br_w6 := br_6.cell2
  have bf_u6 := bf_6.cell0
  have bf_v6 := bf_6.cell1
  have bf_w6 := bf_6.cell2
  go_wp2_with fail
  refine (rcmp_q _ _ _ _ _ _ _ _ _ _ _ _ _ _ _ _ _ _ HC.out f_6.iq hp_6 lf.1 lf.2 ln lm).mono ?_
  rintro e w7 ⟨rfl, b7⟩
  have hp_7 := hp_6.below b7
  have hq_7 := hq_6.below b7
  have f_7 := f_6.below b7
  have ba_7 := ba_6.below b7 ba_6.lt
  have bb_7 := bb_6.below b7 bb_6.lt
  have br_7 := br_6.below b7 br_6.lt
  have bf_7 := bf_6.below b7 bf_6.lt
  have F7 := below_then F6 (Nat.le_refl _) b7
  have ba_u7 := ba_7.cell0
  have ba_v7 := ba_7.cell1
  have ba_w7 := ba_7.cell2
  have bb_u7 := bb_7.cell0
  have bb_v7 := bb_7.cell1
  have bb_w7 := bb_7.cell2
  have br_u7 := br_7.cell0
  have br_v7 := br_7.cell1
  have br_w7 := br_7.cell2
  have bf_u7 := bf_7.cell0
  have bf_v7 := bf_7.cell1
  have bf_w7 := bf_7.cell2
  go_upto_region 4 with fail
  go_cut [6] (fun sx7 wy => ∃ (wx7 : World) (g : Nat) (s9 : Bool) (A9 : Option Addr) (n9 : Nat) (c9 : Nat) (B9 : Option Addr) (m9 : Nat) (d9 : Nat) (s10 : Bool) (A10 : Option Addr) (n10 : Nat) (c10 : Nat) (B10 : Option Addr) (m10 : Nat) (d10 : Nat), wx7 = wy ∧ sx7 = .pointer (some ⟨g, 0, none⟩) ∧ Sq wx7 g (.bool s10) (.slice A10 n10 c10) (.slice B10 m10 d10) ∧ w.heap.size ≤ g ∧ w.heap.size < g ∧ w.heap.size + 1 < g ∧ w.heap.size + 2 < g ∧ w5.heap.size < g ∧ Sq wx7 (w.heap.size) (.bool s) (.slice A n c) (.slice B m d) ∧ Sq wx7 (w.heap.size + 1) (.bool t) (.slice A' n' c') (.slice B' m' d') ∧ Sq wx7 (w.heap.size + 2) (.bool false) (.slice none 0 0) (.slice none 0 0) ∧ Sq wx7 (w5.heap.size) (.bool s5) (.slice A5 n5 c5) (.slice B5 m5 d5) ∧ Iq wx7 s A n c B m d p ∧ Iq wx7 t A' n' c' B' m' d' q ∧ Cq wx7 s5 A5 n5 c5 B5 m5 d5 (fl : Rat) ∧ Cq wx7 s10 A10 n10 c10 B10 m10 d10 u ∧ Below w.heap.size w wx7)
  case first =>
    have hp_8 := hp_7.drew
    have hq_8 := hq_7.drew
    have f_8 := f_7.drew
    have ba_8 := ba_7.drew
    have bb_8 := bb_7.drew
    have br_8 := br_7.drew
    have bf_8 := bf_7.drew
    have F8 := F7.drew
    have hp_z0 := (hp_7.alloc EQ0).drew
    have hq_z0 := (hq_7.alloc EQ0).drew
    have f_z0 := (f_7.alloc EQ0).drew
    have ba_z0 := (ba_7.alloc EQ0).drew
    have bb_z0 := (bb_7.alloc EQ0).drew
    have br_z0 := (br_7.alloc EQ0).drew
    have bf_z0 := (bf_7.alloc EQ0).drew
    have lz_ba := ba_7.lt
    have lz_bb := bb_7.lt
    have lz_br := br_7.lt
    have lz_bf := bf_7.lt
    have gl := F7.size
    have F_z0 := (F7.alloc F7.size EQ0).drew
    have zb_0 : Sq ((w7).alloc EQ0).drew (w7.heap.size) (.bool false) (.slice none 0 0) (.slice none 0 0) := by have h_ := Sq.new (w7) (.bool false) (.slice none 0 0) (.slice none 0 0); exact h_.drew
    go_region_held3 (fun w' => w'.cell? ⟨w5.heap.size, 0, none⟩ = some (.bool s5) ∧ w'.cell? ⟨w5.heap.size, 1, none⟩ = some (.slice A5 n5 c5) ∧ w'.cell? ⟨w5.heap.size, 2, none⟩ = some (.slice B5 m5 d5))
      (first
        | with_reducible exact ⟨(bf_10.alloc (EQ s10 A10 n10 c10 B10 m10 d10)).cell0, (bf_10.alloc (EQ s10 A10 n10 c10 B10 m10 d10)).cell1, (bf_10.alloc (EQ s10 A10 n10 c10 B10 m10 d10)).cell2⟩
        | with_reducible exact ⟨(bf_10.past (u0 := .bool s10) (u1 := .slice A10 n10 c10) (u2 := .slice B10 m10 d10) (Nat.ne_of_lt lz_bf)).cell0, (bf_10.past (u0 := .bool s10) (u1 := .slice A10 n10 c10) (u2 := .slice B10 m10 d10) (Nat.ne_of_lt lz_bf)).cell1, (bf_10.past (u0 := .bool s10) (u1 := .slice A10 n10 c10) (u2 := .slice B10 m10 d10) (Nat.ne_of_lt lz_bf)).cell2⟩
        | with_reducible exact ⟨(bf_10.alloc EQ0).cell0, (bf_10.alloc EQ0).cell1, (bf_10.alloc EQ0).cell2⟩
        | with_reducible exact ⟨bf_10.cell0, bf_10.cell1, bf_10.cell2⟩
        | with_reducible exact ⟨bf_9.alloc EQ0 |>.cell0, bf_9.alloc EQ0 |>.cell1, bf_9.alloc EQ0 |>.cell2⟩
        | with_reducible exact ⟨(bf_9.alloc EQ0).cell0, (bf_9.alloc EQ0).cell1, (bf_9.alloc EQ0).cell2⟩
        | with_reducible exact ⟨bf_9.cell0, bf_9.cell1, bf_9.cell2⟩
        | with_reducible exact ⟨bf_z0.cell0, bf_z0.cell1, bf_z0.cell2⟩
        | with_reducible exact ⟨bf_8.cell0, bf_8.cell1, bf_8.cell2⟩
        | fail)
      (first
        | (go_at_call 32; (with_reducible refine (rone_q _).mono ?_); rintro e w9 ⟨s9, A9, n9, c9, B9, m9, d9, rfl, one, b9⟩; have hp_9 := hp_8.below b9; have hq_9 := hq_8.below b9; have f_9 := f_8.below b9; have ba_9 := ba_8.below b9 ba_8.lt; have bb_9 := bb_8.below b9 bb_8.lt; have br_9 := br_8.below b9 br_8.lt; have bf_9 := bf_8.below b9 bf_8.lt; have F9 := below_then F8 (Nat.le_refl _) b9; have lo1 := one.small s1 (show 1 ≤ 4000 by omega))
        | (go_at_call 32; (with_reducible refine (rone_q _).mono ?_); rintro e w9 ⟨s9, A9, n9, c9, B9, m9, d9, rfl, one, b9⟩; have hp_9 := hp_z0.below b9; have hq_9 := hq_z0.below b9; have f_9 := f_z0.below b9; have ba_9 := ba_z0.below b9 ba_z0.lt; have bb_9 := bb_z0.below b9 bb_z0.lt; have br_9 := br_z0.below b9 br_z0.lt; have bf_9 := bf_z0.below b9 bf_z0.lt; have F9 := below_then F_z0 (Nat.le_refl _) b9; have zb_9 := zb_0.below b9 zb_0.lt; have lo1 := one.small s1 (show 1 ≤ 4000 by omega))
        | (go_at_call 34; (with_reducible refine (radd_q _ _ _ _ _ _ _ _ _ _ _ _ _ _ _ _ _ _ HU.out f_9.iq one.iq lf.1 lf.2 lo1.1 lo1.2).mono ?_); rintro e w10 ⟨s10, A10, n10, c10, B10, m10, d10, rfl, up, b10⟩; have hp_10 := hp_9.below b10; have hq_10 := hq_9.below b10; have f_10 := f_9.below b10; have one_10 := one.below b10; have ba_10 := ba_9.below b10 ba_9.lt; have bb_10 := bb_9.below b10 bb_9.lt; have br_10 := br_9.below b10 br_9.lt; have bf_10 := bf_9.below b10 bf_9.lt; have F10 := below_then F9 (Nat.le_refl _) b10; have zb_10 := zb_9.below b10 zb_9.lt; have zk10_0 := zb_10.cell0; have zk10_1 := zb_10.cell1; have zk10_2 := zb_10.cell2; have zf10_0 := zb_10.frozen 0; have zf10_1 := zb_10.frozen 1; have zf10_2 := zb_10.frozen 2)
        | (go_at_call 34; (with_reducible refine (radd_q _ _ _ _ _ _ _ _ _ _ _ _ _ _ _ _ _ _ HU.out f_9.iq one.iq lf.1 lf.2 lo1.1 lo1.2).mono ?_); rintro e w10 ⟨s10, A10, n10, c10, B10, m10, d10, rfl, up, b10⟩; have hp_10 := hp_9.below b10; have hq_10 := hq_9.below b10; have f_10 := f_9.below b10; have one_10 := one.below b10; have ba_10 := ba_9.below b10 ba_9.lt; have bb_10 := bb_9.below b10 bb_9.lt; have br_10 := br_9.below b10 br_9.lt; have bf_10 := bf_9.below b10 bf_9.lt; have F10 := below_then F9 (Nat.le_refl _) b10)
        | (have hp_z10 := hp_9.alloc EQ0; have hq_z10 := hq_9.alloc EQ0; have f_z10 := f_9.alloc EQ0; have one_z10 := one.alloc EQ0; have ba_z10 := ba_9.alloc EQ0; have bb_z10 := bb_9.alloc EQ0; have br_z10 := br_9.alloc EQ0; have bf_z10 := bf_9.alloc EQ0; have lz_ba := ba_9.lt; have lz_bb := bb_9.lt; have lz_br := br_9.lt; have lz_bf := bf_9.lt; have gl := F9.size; have F_z10 := F9.alloc F9.size EQ0; have zb_9 := Sq.new (w9) (.bool false) (.slice none 0 0) (.slice none 0 0); go_at_call 34; (with_reducible refine (radd_q _ _ _ _ _ _ _ _ _ _ _ _ _ _ _ _ _ _ HU.out f_z10.iq one_z10.iq lf.1 lf.2 lo1.1 lo1.2).mono ?_); rintro e w10 ⟨s10, A10, n10, c10, B10, m10, d10, rfl, up, b10⟩; have hp_10 := hp_z10.below b10; have hq_10 := hq_z10.below b10; have f_10 := f_z10.below b10; have one_10 := one_z10.below b10; have ba_10 := ba_z10.below b10 ba_z10.lt; have bb_10 := bb_z10.below b10 bb_z10.lt; have br_10 := br_z10.below b10 br_z10.lt; have bf_10 := bf_z10.below b10 bf_z10.lt; have F10 := below_then F_z10 (Nat.le_refl _) b10; have zb_10 := zb_9.below b10 zb_9.lt; have zk10_0 := zb_10.cell0; have zk10_1 := zb_10.cell1; have zk10_2 := zb_10.cell2; have zf10_0 := zb_10.frozen 0; have zf10_1 := zb_10.frozen 1; have zf10_2 := zb_10.frozen 2)
        | fail)
    all_goals (go_wp2_with fail; go_meet; first | exact ⟨_, _, s9, A9, n9, c9, B9, m9, d9, s10, A10, n10, c10, B10, m10, d10, rfl, rfl, zb_10.stor, gl, lz_ba, lz_bb, lz_br, lz_bf, ba_10.past (Nat.ne_of_lt lz_ba), bb_10.past (Nat.ne_of_lt lz_bb), br_10.past (Nat.ne_of_lt lz_br), bf_10.past (Nat.ne_of_lt lz_bf), hp_10.storQ zb_10 (.bool s10) (.slice A10 n10 c10) (.slice B10 m10 d10), hq_10.storQ zb_10 (.bool s10) (.slice A10 n10 c10) (.slice B10 m10 d10), f_10.storQ zb_10 (.bool s10) (.slice A10 n10 c10) (.slice B10 m10 d10), up.storQ zb_10 (.bool s10) (.slice A10 n10 c10) (.slice B10 m10 d10), below_storQ F10 gl⟩ | exact ⟨_, _, s9, A9, n9, c9, B9, m9, d9, s10, A10, n10, c10, B10, m10, d10, rfl, rfl, Sq.new w10 (.bool s10) (.slice A10 n10 c10) (.slice B10 m10 d10), F10.size, ba_10.lt, bb_10.lt, br_10.lt, bf_10.lt, ba_10.alloc (EQ s10 A10 n10 c10 B10 m10 d10), bb_10.alloc (EQ s10 A10 n10 c10 B10 m10 d10), br_10.alloc (EQ s10 A10 n10 c10 B10 m10 d10), bf_10.alloc (EQ s10 A10 n10 c10 B10 m10 d10), hp_10.alloc (EQ s10 A10 n10 c10 B10 m10 d10), hq_10.alloc (EQ s10 A10 n10 c10 B10 m10 d10), f_10.alloc (EQ s10 A10 n10 c10 B10 m10 d10), up.alloc (EQ s10 A10 n10 c10 B10 m10 d10), F10.alloc F10.size _⟩ | fail)
  case rest =>
    obtain ⟨wx7, g11, s9, A9, n9, c9, B9, m9, d9, s10, A10, n10, c10, B10, m10, d10, rfl, rfl, bu_11, gl_11, lt_bu_ba, lt_bu_bb, lt_bu_br, lt_bu_bf, ba_11, bb_11, br_11, bf_11, hp_11, hq_11, f_11, up_11, F11⟩ := hcut
    have lu := up_11.small su ku
    have ba_u11 := ba_11.cell0
    have ba_v11 := ba_11.cell1
    have ba_w11 := ba_11.cell2
    have bb_u11 := bb_11.cell0
    have bb_v11 := bb_11.cell1
    have bb_w11 := bb_11.cell2
    have br_u11 := br_11.cell0
    have br_v11 := br_11.cell1
    have br_w11 := br_11.cell2
    have bf_u11 := bf_11.cell0
    have bf_v11 := bf_11.cell1
    have bf_w11 := bf_11.cell2
    have bu_u11 := bu_11.cell0
    have bu_v11 := bu_11.cell1
    have bu_w11 := bu_11.cell2
    go_wp2_with fail
    refine (rcmp_q _ _ _ _ _ _ _ _ _ _ _ _ _ _ _ _ _ _ HC2.out up_11.iq hq_11 lu.1 lu.2 ln' lm').mono ?_
    rintro e w12 ⟨rfl, b12⟩
    have hp_12 := hp_11.below b12
    have hq_12 := hq_11.below b12
    have f_12 := f_11.below b12
    have up_12 := up_11.below b12
    have ba_12 := ba_11.below b12 ba_11.lt
    have bb_12 := bb_11.below b12 bb_11.lt
    have br_12 := br_11.below b12 br_11.lt
    have bf_12 := bf_11.below b12 bf_11.lt
    have bu_12 := bu_11.below b12 bu_11.lt
    have F12 := below_then F11 (Nat.le_refl _) b12
    have ba_u12 := ba_12.cell0
    have ba_v12 := ba_12.cell1
    have ba_w12 := ba_12.cell2
    have bb_u12 := bb_12.cell0
    have bb_v12 := bb_12.cell1
    have bb_w12 := bb_12.cell2
    have br_u12 := br_12.cell0
    have br_v12 := br_12.cell1
    have br_w12 := br_12.cell2
    have bf_u12 := bf_12.cell0
    have bf_v12 := bf_12.cell1
    have bf_w12 := bf_12.cell2
    have bu_u12 := bu_12.cell0
    have bu_v12 := bu_12.cell1
    have bu_w12 := bu_12.cell2
    go_upto_region 7 with fail
    go_cut [7] (fun sx12 wy => ∃ (wx12 : World) (g : Nat) (s14 : Bool) (A14 : Option Addr) (n14 : Nat) (c14 : Nat) (B14 : Option Addr) (m14 : Nat) (d14 : Nat) (s15 : Bool) (A15 : Option Addr) (n15 : Nat) (c15 : Nat) (B15 : Option Addr) (m15 : Nat) (d15 : Nat) (s16 : Bool) (A16 : Option Addr) (n16 : Nat) (c16 : Nat) (B16 : Option Addr) (m16 : Nat) (d16 : Nat), wx12 = wy ∧ sx12 = .pointer (some ⟨g, 0, none⟩) ∧ Sq wx12 g (.bool s16) (.slice A16 n16 c16) (.slice B16 m16 d16) ∧ w.heap.size ≤ g ∧ w.heap.size < g ∧ w.heap.size + 1 < g ∧ w.heap.size + 2 < g ∧ w5.heap.size < g ∧ Sq wx12 (w.heap.size) (.bool s) (.slice A n c) (.slice B m d) ∧ Sq wx12 (w.heap.size + 1) (.bool t) (.slice A' n' c') (.slice B' m' d') ∧ Sq wx12 (w.heap.size + 2) (.bool false) (.slice none 0 0) (.slice none 0 0) ∧ Sq wx12 (w5.heap.size) (.bool s5) (.slice A5 n5 c5) (.slice B5 m5 d5) ∧ Iq wx12 s A n c B m d p ∧ Iq wx12 t A' n' c' B' m' d' q ∧ Cq wx12 s5 A5 n5 c5 B5 m5 d5 (fl : Rat) ∧ Cq wx12 s16 A16 n16 c16 B16 m16 d16 (1 / (q - (fl : Rat))) ∧ Below w.heap.size w wx12)
    case first =>
      have hp_13 := hp_12.drew
      have hq_13 := hq_12.drew
      have f_13 := f_12.drew
      have ba_13 := ba_12.drew
      have bb_13 := bb_12.drew
      have br_13 := br_12.drew
      have bf_13 := bf_12.drew
      have F13 := F12.drew
      have hp_z0 := (hp_12.alloc EQ0).drew
      have hq_z0 := (hq_12.alloc EQ0).drew
      have f_z0 := (f_12.alloc EQ0).drew
      have ba_z0 := (ba_12.alloc EQ0).drew
      have bb_z0 := (bb_12.alloc EQ0).drew
      have br_z0 := (br_12.alloc EQ0).drew
      have bf_z0 := (bf_12.alloc EQ0).drew
      have lz_ba := ba_12.lt
      have lz_bb := bb_12.lt
      have lz_br := br_12.lt
      have lz_bf := bf_12.lt
      have gl := F12.size
      have F_z0 := (F12.alloc F12.size EQ0).drew
      have zb_0 : Sq ((w12).alloc EQ0).drew (w12.heap.size) (.bool false) (.slice none 0 0) (.slice none 0 0) := by have h_ := Sq.new (w12) (.bool false) (.slice none 0 0) (.slice none 0 0); exact h_.drew
      go_region_held3 (fun w' => w'.cell? ⟨w5.heap.size, 0, none⟩ = some (.bool s5) ∧ w'.cell? ⟨w5.heap.size, 1, none⟩ = some (.slice A5 n5 c5) ∧ w'.cell? ⟨w5.heap.size, 2, none⟩ = some (.slice B5 m5 d5) ∧ w'.cell? ⟨w.heap.size + 1, 0, none⟩ = some (.bool t) ∧ w'.cell? ⟨w.heap.size + 1, 1, none⟩ = some (.slice A' n' c') ∧ w'.cell? ⟨w.heap.size + 1, 2, none⟩ = some (.slice B' m' d'))
        (first
          | with_reducible exact ⟨(bf_16.alloc (EQ s16 A16 n16 c16 B16 m16 d16)).cell0, (bf_16.alloc (EQ s16 A16 n16 c16 B16 m16 d16)).cell1, (bf_16.alloc (EQ s16 A16 n16 c16 B16 m16 d16)).cell2, (bb_16.alloc (EQ s16 A16 n16 c16 B16 m16 d16)).cell0, (bb_16.alloc (EQ s16 A16 n16 c16 B16 m16 d16)).cell1, (bb_16.alloc (EQ s16 A16 n16 c16 B16 m16 d16)).cell2⟩
          | with_reducible exact ⟨(bf_16.past (u0 := .bool s16) (u1 := .slice A16 n16 c16) (u2 := .slice B16 m16 d16) (Nat.ne_of_lt lz_bf)).cell0, (bf_16.past (u0 := .bool s16) (u1 := .slice A16 n16 c16) (u2 := .slice B16 m16 d16) (Nat.ne_of_lt lz_bf)).cell1, (bf_16.past (u0 := .bool s16) (u1 := .slice A16 n16 c16) (u2 := .slice B16 m16 d16) (Nat.ne_of_lt lz_bf)).cell2, (bb_16.past (u0 := .bool s16) (u1 := .slice A16 n16 c16) (u2 := .slice B16 m16 d16) (Nat.ne_of_lt lz_bb)).cell0, (bb_16.past (u0 := .bool s16) (u1 := .slice A16 n16 c16) (u2 := .slice B16 m16 d16) (Nat.ne_of_lt lz_bb)).cell1, (bb_16.past (u0 := .bool s16) (u1 := .slice A16 n16 c16) (u2 := .slice B16 m16 d16) (Nat.ne_of_lt lz_bb)).cell2⟩
          | with_reducible exact ⟨(bf_16.alloc EQ0).cell0, (bf_16.alloc EQ0).cell1, (bf_16.alloc EQ0).cell2, (bb_16.alloc EQ0).cell0, (bb_16.alloc EQ0).cell1, (bb_16.alloc EQ0).cell2⟩
          | with_reducible exact ⟨bf_16.cell0, bf_16.cell1, bf_16.cell2, bb_16.cell0, bb_16.cell1, bb_16.cell2⟩
          | with_reducible exact ⟨bf_15.alloc EQ0 |>.cell0, bf_15.alloc EQ0 |>.cell1, bf_15.alloc EQ0 |>.cell2, bb_15.alloc EQ0 |>.cell0, bb_15.alloc EQ0 |>.cell1, bb_15.alloc EQ0 |>.cell2⟩
          | with_reducible exact ⟨(bf_15.alloc EQ0).cell0, (bf_15.alloc EQ0).cell1, (bf_15.alloc EQ0).cell2, (bb_15.alloc EQ0).cell0, (bb_15.alloc EQ0).cell1, (bb_15.alloc EQ0).cell2⟩
          | with_reducible exact ⟨bf_15.cell0, bf_15.cell1, bf_15.cell2, bb_15.cell0, bb_15.cell1, bb_15.cell2⟩
          | with_reducible exact ⟨bf_14.alloc EQ0 |>.cell0, bf_14.alloc EQ0 |>.cell1, bf_14.alloc EQ0 |>.cell2, bb_14.alloc EQ0 |>.cell0, bb_14.alloc EQ0 |>.cell1, bb_14.alloc EQ0 |>.cell2⟩
          | with_reducible exact ⟨(bf_14.alloc EQ0).cell0, (bf_14.alloc EQ0).cell1, (bf_14.alloc EQ0).cell2, (bb_14.alloc EQ0).cell0, (bb_14.alloc EQ0).cell1, (bb_14.alloc EQ0).cell2⟩
          | with_reducible exact ⟨bf_14.cell0, bf_14.cell1, bf_14.cell2, bb_14.cell0, bb_14.cell1, bb_14.cell2⟩
          | with_reducible exact ⟨bf_z0.cell0, bf_z0.cell1, bf_z0.cell2, bb_z0.cell0, bb_z0.cell1, bb_z0.cell2⟩
          | with_reducible exact ⟨bf_13.cell0, bf_13.cell1, bf_13.cell2, bb_13.cell0, bb_13.cell1, bb_13.cell2⟩
          | fail)
        (first
          | (go_at_call 32; (with_reducible refine (rone_q _).mono ?_); rintro e w14 ⟨s14, A14, n14, c14, B14, m14, d14, rfl, oa, b14⟩; have hp_14 := hp_13.below b14; have hq_14 := hq_13.below b14; have f_14 := f_13.below b14; have ba_14 := ba_13.below b14 ba_13.lt; have bb_14 := bb_13.below b14 bb_13.lt; have br_14 := br_13.below b14 br_13.lt; have bf_14 := bf_13.below b14 bf_13.lt; have F14 := below_then F13 (Nat.le_refl _) b14; have l1a := oa.small s1 (show 1 ≤ 4000 by omega))
          | (go_at_call 32; (with_reducible refine (rone_q _).mono ?_); rintro e w14 ⟨s14, A14, n14, c14, B14, m14, d14, rfl, oa, b14⟩; have hp_14 := hp_z0.below b14; have hq_14 := hq_z0.below b14; have f_14 := f_z0.below b14; have ba_14 := ba_z0.below b14 ba_z0.lt; have bb_14 := bb_z0.below b14 bb_z0.lt; have br_14 := br_z0.below b14 br_z0.lt; have bf_14 := bf_z0.below b14 bf_z0.lt; have F14 := below_then F_z0 (Nat.le_refl _) b14; have zb_14 := zb_0.below b14 zb_0.lt; have l1a := oa.small s1 (show 1 ≤ 4000 by omega))
          | (go_at_call 36; (with_reducible refine (rsub_q _ _ _ _ _ _ _ _ _ _ _ _ _ _ _ _ _ _ rfl hq_14 f_14.iq ln' lm' lf.1 lf.2).mono ?_); rintro e w15 ⟨s15, A15, n15, c15, B15, m15, d15, rfl, da, b15⟩; have hp_15 := hp_14.below b15; have hq_15 := hq_14.below b15; have f_15 := f_14.below b15; have oa_15 := oa.below b15; have ba_15 := ba_14.below b15 ba_14.lt; have bb_15 := bb_14.below b15 bb_14.lt; have br_15 := br_14.below b15 br_14.lt; have bf_15 := bf_14.below b15 bf_14.lt; have F15 := below_then F14 (Nat.le_refl _) b15; have zb_15 := zb_14.below b15 zb_14.lt; have l2a := da.small sq kq)
          | (go_at_call 36; (with_reducible refine (rsub_q _ _ _ _ _ _ _ _ _ _ _ _ _ _ _ _ _ _ rfl hq_14 f_14.iq ln' lm' lf.1 lf.2).mono ?_); rintro e w15 ⟨s15, A15, n15, c15, B15, m15, d15, rfl, da, b15⟩; have hp_15 := hp_14.below b15; have hq_15 := hq_14.below b15; have f_15 := f_14.below b15; have oa_15 := oa.below b15; have ba_15 := ba_14.below b15 ba_14.lt; have bb_15 := bb_14.below b15 bb_14.lt; have br_15 := br_14.below b15 br_14.lt; have bf_15 := bf_14.below b15 bf_14.lt; have F15 := below_then F14 (Nat.le_refl _) b15; have l2a := da.small sq kq)
          | (have hp_z15 := hp_14.alloc EQ0; have hq_z15 := hq_14.alloc EQ0; have f_z15 := f_14.alloc EQ0; have oa_z15 := oa.alloc EQ0; have ba_z15 := ba_14.alloc EQ0; have bb_z15 := bb_14.alloc EQ0; have br_z15 := br_14.alloc EQ0; have bf_z15 := bf_14.alloc EQ0; have lz_ba := ba_14.lt; have lz_bb := bb_14.lt; have lz_br := br_14.lt; have lz_bf := bf_14.lt; have gl := F14.size; have F_z15 := F14.alloc F14.size EQ0; have zb_14 := Sq.new (w14) (.bool false) (.slice none 0 0) (.slice none 0 0); go_at_call 36; (with_reducible refine (rsub_q _ _ _ _ _ _ _ _ _ _ _ _ _ _ _ _ _ _ rfl hq_z15 f_z15.iq ln' lm' lf.1 lf.2).mono ?_); rintro e w15 ⟨s15, A15, n15, c15, B15, m15, d15, rfl, da, b15⟩; have hp_15 := hp_z15.below b15; have hq_15 := hq_z15.below b15; have f_15 := f_z15.below b15; have oa_15 := oa_z15.below b15; have ba_15 := ba_z15.below b15 ba_z15.lt; have bb_15 := bb_z15.below b15 bb_z15.lt; have br_15 := br_z15.below b15 br_z15.lt; have bf_15 := bf_z15.below b15 bf_z15.lt; have F15 := below_then F_z15 (Nat.le_refl _) b15; have zb_15 := zb_14.below b15 zb_14.lt; have l2a := da.small sq kq)
          | (go_at_call 100; (with_reducible refine (rdiv_q _ _ _ _ _ _ _ _ _ _ _ _ _ _ _ _ _ _ rfl nq oa_15.iq da.iq l1a.1 l1a.2 l2a.1 l2a.2).mono ?_); rintro e w16 ⟨s16, A16, n16, c16, B16, m16, d16, rfl, a, b16⟩; have hp_16 := hp_15.below b16; have hq_16 := hq_15.below b16; have f_16 := f_15.below b16; have oa_16 := oa_15.below b16; have da_16 := da.below b16; have ba_16 := ba_15.below b16 ba_15.lt; have bb_16 := bb_15.below b16 bb_15.lt; have br_16 := br_15.below b16 br_15.lt; have bf_16 := bf_15.below b16 bf_15.lt; have F16 := below_then F15 (Nat.le_refl _) b16; have zb_16 := zb_15.below b16 zb_15.lt; have zk16_0 := zb_16.cell0; have zk16_1 := zb_16.cell1; have zk16_2 := zb_16.cell2; have zf16_0 := zb_16.frozen 0; have zf16_1 := zb_16.frozen 1; have zf16_2 := zb_16.frozen 2)
          | (go_at_call 100; (with_reducible refine (rdiv_q _ _ _ _ _ _ _ _ _ _ _ _ _ _ _ _ _ _ rfl nq oa_15.iq da.iq l1a.1 l1a.2 l2a.1 l2a.2).mono ?_); rintro e w16 ⟨s16, A16, n16, c16, B16, m16, d16, rfl, a, b16⟩; have hp_16 := hp_15.below b16; have hq_16 := hq_15.below b16; have f_16 := f_15.below b16; have oa_16 := oa_15.below b16; have da_16 := da.below b16; have ba_16 := ba_15.below b16 ba_15.lt; have bb_16 := bb_15.below b16 bb_15.lt; have br_16 := br_15.below b16 br_15.lt; have bf_16 := bf_15.below b16 bf_15.lt; have F16 := below_then F15 (Nat.le_refl _) b16)
          | (have hp_z16 := hp_15.alloc EQ0; have hq_z16 := hq_15.alloc EQ0; have f_z16 := f_15.alloc EQ0; have oa_z16 := oa_15.alloc EQ0; have da_z16 := da.alloc EQ0; have ba_z16 := ba_15.alloc EQ0; have bb_z16 := bb_15.alloc EQ0; have br_z16 := br_15.alloc EQ0; have bf_z16 := bf_15.alloc EQ0; have lz_ba := ba_15.lt; have lz_bb := bb_15.lt; have lz_br := br_15.lt; have lz_bf := bf_15.lt; have gl := F15.size; have F_z16 := F15.alloc F15.size EQ0; have zb_15 := Sq.new (w15) (.bool false) (.slice none 0 0) (.slice none 0 0); go_at_call 100; (with_reducible refine (rdiv_q _ _ _ _ _ _ _ _ _ _ _ _ _ _ _ _ _ _ rfl nq oa_z16.iq da_z16.iq l1a.1 l1a.2 l2a.1 l2a.2).mono ?_); rintro e w16 ⟨s16, A16, n16, c16, B16, m16, d16, rfl, a, b16⟩; have hp_16 := hp_z16.below b16; have hq_16 := hq_z16.below b16; have f_16 := f_z16.below b16; have oa_16 := oa_z16.below b16; have da_16 := da_z16.below b16; have ba_16 := ba_z16.below b16 ba_z16.lt; have bb_16 := bb_z16.below b16 bb_z16.lt; have br_16 := br_z16.below b16 br_z16.lt; have bf_16 := bf_z16.below b16 bf_z16.lt; have F16 := below_then F_z16 (Nat.le_refl _) b16; have zb_16 := zb_15.below b16 zb_15.lt; have zk16_0 := zb_16.cell0; have zk16_1 := zb_16.cell1; have zk16_2 := zb_16.cell2; have zf16_0 := zb_16.frozen 0; have zf16_1 := zb_16.frozen 1; have zf16_2 := zb_16.frozen 2)
          | fail)
      all_goals (go_wp2_with fail; go_meet; first | exact ⟨_, _, s14, A14, n14, c14, B14, m14, d14, s15, A15, n15, c15, B15, m15, d15, s16, A16, n16, c16, B16, m16, d16, rfl, rfl, zb_16.stor, gl, lz_ba, lz_bb, lz_br, lz_bf, ba_16.past (Nat.ne_of_lt lz_ba), bb_16.past (Nat.ne_of_lt lz_bb), br_16.past (Nat.ne_of_lt lz_br), bf_16.past (Nat.ne_of_lt lz_bf), hp_16.storQ zb_16 (.bool s16) (.slice A16 n16 c16) (.slice B16 m16 d16), hq_16.storQ zb_16 (.bool s16) (.slice A16 n16 c16) (.slice B16 m16 d16), f_16.storQ zb_16 (.bool s16) (.slice A16 n16 c16) (.slice B16 m16 d16), a.storQ zb_16 (.bool s16) (.slice A16 n16 c16) (.slice B16 m16 d16), below_storQ F16 gl⟩ | exact ⟨_, _, s14, A14, n14, c14, B14, m14, d14, s15, A15, n15, c15, B15, m15, d15, s16, A16, n16, c16, B16, m16, d16, rfl, rfl, Sq.new w16 (.bool s16) (.slice A16 n16 c16) (.slice B16 m16 d16), F16.size, ba_16.lt, bb_16.lt, br_16.lt, bf_16.lt, ba_16.alloc (EQ s16 A16 n16 c16 B16 m16 d16), bb_16.alloc (EQ s16 A16 n16 c16 B16 m16 d16), br_16.alloc (EQ s16 A16 n16 c16 B16 m16 d16), bf_16.alloc (EQ s16 A16 n16 c16 B16 m16 d16), hp_16.alloc (EQ s16 A16 n16 c16 B16 m16 d16), hq_16.alloc (EQ s16 A16 n16 c16 B16 m16 d16), f_16.alloc (EQ s16 A16 n16 c16 B16 m16 d16), a.alloc (EQ s16 A16 n16 c16 B16 m16 d16), F16.alloc F16.size _⟩ | fail)
    case rest =>
      obtain ⟨wx12, g17, s14, A14, n14, c14, B14, m14, d14, s15, A15, n15, c15, B15, m15, d15, s16, A16, n16, c16, B16, m16, d16, rfl, rfl, bax_17, gl_17, lt_bax_ba, lt_bax_bb, lt_bax_br, lt_bax_bf, ba_17, bb_17, br_17, bf_17, hp_17, hq_17, f_17, a_17, F17⟩ := hcut
      have la := a_17.tiny sa
      go_upto_region 8 with fail
      go_cut [9] (fun sx17 wy => ∃ (wx17 : World) (g : Nat) (s19 : Bool) (A19 : Option Addr) (n19 : Nat) (c19 : Nat) (B19 : Option Addr) (m19 : Nat) (d19 : Nat) (s20 : Bool) (A20 : Option Addr) (n20 : Nat) (c20 : Nat) (B20 : Option Addr) (m20 : Nat) (d20 : Nat) (s21 : Bool) (A21 : Option Addr) (n21 : Nat) (c21 : Nat) (B21 : Option Addr) (m21 : Nat) (d21 : Nat), wx17 = wy ∧ sx17 = .pointer (some ⟨g, 0, none⟩) ∧ Sq wx17 g (.bool s21) (.slice A21 n21 c21) (.slice B21 m21 d21) ∧ w.heap.size ≤ g ∧ w.heap.size < g ∧ w.heap.size + 1 < g ∧ w.heap.size + 2 < g ∧ w5.heap.size < g ∧ g17 < g ∧ Sq wx17 (w.heap.size) (.bool s) (.slice A n c) (.slice B m d) ∧ Sq wx17 (w.heap.size + 1) (.bool t) (.slice A' n' c') (.slice B' m' d') ∧ Sq wx17 (w.heap.size + 2) (.bool false) (.slice none 0 0) (.slice none 0 0) ∧ Sq wx17 (w5.heap.size) (.bool s5) (.slice A5 n5 c5) (.slice B5 m5 d5) ∧ Sq wx17 (g17) (.bool s16) (.slice A16 n16 c16) (.slice B16 m16 d16) ∧ Iq wx17 s A n c B m d p ∧ Iq wx17 t A' n' c' B' m' d' q ∧ Cq wx17 s5 A5 n5 c5 B5 m5 d5 (fl : Rat) ∧ Cq wx17 s16 A16 n16 c16 B16 m16 d16 (1 / (q - (fl : Rat))) ∧ Cq wx17 s21 A21 n21 c21 B21 m21 d21 (1 / (p - (fl : Rat))) ∧ Below w.heap.size w wx17)
      case first =>
        have hp_18 := hp_17.drew
        have hq_18 := hq_17.drew
        have f_18 := f_17.drew
        have a_18 := a_17.drew
        have ba_18 := ba_17.drew
        have bb_18 := bb_17.drew
        have br_18 := br_17.drew
        have bf_18 := bf_17.drew
        have bax_18 := bax_17.drew
        have F18 := F17.drew
        have hp_z0 := (hp_17.alloc EQ0).drew
        have hq_z0 := (hq_17.alloc EQ0).drew
        have f_z0 := (f_17.alloc EQ0).drew
        have a_z0 := (a_17.alloc EQ0).drew
        have ba_z0 := (ba_17.alloc EQ0).drew
        have bb_z0 := (bb_17.alloc EQ0).drew
        have br_z0 := (br_17.alloc EQ0).drew
        have bf_z0 := (bf_17.alloc EQ0).drew
        have bax_z0 := (bax_17.alloc EQ0).drew
        have lz_ba := ba_17.lt
        have lz_bb := bb_17.lt
        have lz_br := br_17.lt
        have lz_bf := bf_17.lt
        have lz_bax := bax_17.lt
        have gl := F17.size
        have F_z0 := (F17.alloc F17.size EQ0).drew
        have zb_0 : Sq ((wx12).alloc EQ0).drew (wx12.heap.size) (.bool false) (.slice none 0 0) (.slice none 0 0) := by have h_ := Sq.new (wx12) (.bool false) (.slice none 0 0) (.slice none 0 0); exact h_.drew
        go_region_held3 (fun w' => w'.cell? ⟨w5.heap.size, 0, none⟩ = some (.bool s5) ∧ w'.cell? ⟨w5.heap.size, 1, none⟩ = some (.slice A5 n5 c5) ∧ w'.cell? ⟨w5.heap.size, 2, none⟩ = some (.slice B5 m5 d5) ∧ w'.cell? ⟨w.heap.size, 0, none⟩ = some (.bool s) ∧ w'.cell? ⟨w.heap.size, 1, none⟩ = some (.slice A n c) ∧ w'.cell? ⟨w.heap.size, 2, none⟩ = some (.slice B m d))
          (first
            | with_reducible exact ⟨(bf_21.alloc (EQ s21 A21 n21 c21 B21 m21 d21)).cell0, (bf_21.alloc (EQ s21 A21 n21 c21 B21 m21 d21)).cell1, (bf_21.alloc (EQ s21 A21 n21 c21 B21 m21 d21)).cell2, (ba_21.alloc (EQ s21 A21 n21 c21 B21 m21 d21)).cell0, (ba_21.alloc (EQ s21 A21 n21 c21 B21 m21 d21)).cell1, (ba_21.alloc (EQ s21 A21 n21 c21 B21 m21 d21)).cell2⟩
            | with_reducible exact ⟨(bf_21.past (u0 := .bool s21) (u1 := .slice A21 n21 c21) (u2 := .slice B21 m21 d21) (Nat.ne_of_lt lz_bf)).cell0, (bf_21.past (u0 := .bool s21) (u1 := .slice A21 n21 c21) (u2 := .slice B21 m21 d21) (Nat.ne_of_lt lz_bf)).cell1, (bf_21.past (u0 := .bool s21) (u1 := .slice A21 n21 c21) (u2 := .slice B21 m21 d21) (Nat.ne_of_lt lz_bf)).cell2, (ba_21.past (u0 := .bool s21) (u1 := .slice A21 n21 c21) (u2 := .slice B21 m21 d21) (Nat.ne_of_lt lz_ba)).cell0, (ba_21.past (u0 := .bool s21) (u1 := .slice A21 n21 c21) (u2 := .slice B21 m21 d21) (Nat.ne_of_lt lz_ba)).cell1, (ba_21.past (u0 := .bool s21) (u1 := .slice A21 n21 c21) (u2 := .slice B21 m21 d21) (Nat.ne_of_lt lz_ba)).cell2⟩
            | with_reducible exact ⟨(bf_21.alloc EQ0).cell0, (bf_21.alloc EQ0).cell1, (bf_21.alloc EQ0).cell2, (ba_21.alloc EQ0).cell0, (ba_21.alloc EQ0).cell1, (ba_21.alloc EQ0).cell2⟩
            | with_reducible exact ⟨bf_21.cell0, bf_21.cell1, bf_21.cell2, ba_21.cell0, ba_21.cell1, ba_21.cell2⟩
            | with_reducible exact ⟨bf_20.alloc EQ0 |>.cell0, bf_20.alloc EQ0 |>.cell1, bf_20.alloc EQ0 |>.cell2, ba_20.alloc EQ0 |>.cell0, ba_20.alloc EQ0 |>.cell1, ba_20.alloc EQ0 |>.cell2⟩
            | with_reducible exact ⟨(bf_20.alloc EQ0).cell0, (bf_20.alloc EQ0).cell1, (bf_20.alloc EQ0).cell2, (ba_20.alloc EQ0).cell0, (ba_20.alloc EQ0).cell1, (ba_20.alloc EQ0).cell2⟩
            | with_reducible exact ⟨bf_20.cell0, bf_20.cell1, bf_20.cell2, ba_20.cell0, ba_20.cell1, ba_20.cell2⟩
            | with_reducible exact ⟨bf_19.alloc EQ0 |>.cell0, bf_19.alloc EQ0 |>.cell1, bf_19.alloc EQ0 |>.cell2, ba_19.alloc EQ0 |>.cell0, ba_19.alloc EQ0 |>.cell1, ba_19.alloc EQ0 |>.cell2⟩
            | with_reducible exact ⟨(bf_19.alloc EQ0).cell0, (bf_19.alloc EQ0).cell1, (bf_19.alloc EQ0).cell2, (ba_19.alloc EQ0).cell0, (ba_19.alloc EQ0).cell1, (ba_19.alloc EQ0).cell2⟩
            | with_reducible exact ⟨bf_19.cell0, bf_19.cell1, bf_19.cell2, ba_19.cell0, ba_19.cell1, ba_19.cell2⟩
            | with_reducible exact ⟨bf_z0.cell0, bf_z0.cell1, bf_z0.cell2, ba_z0.cell0, ba_z0.cell1, ba_z0.cell2⟩
            | with_reducible exact ⟨bf_18.cell0, bf_18.cell1, bf_18.cell2, ba_18.cell0, ba_18.cell1, ba_18.cell2⟩
            | fail)
          (first
            | (go_at_call 32; (with_reducible refine (rone_q _).mono ?_); rintro e w19 ⟨s19, A19, n19, c19, B19, m19, d19, rfl, ob, b19⟩; have hp_19 := hp_18.below b19; have hq_19 := hq_18.below b19; have f_19 := f_18.below b19; have a_19 := a_18.below b19; have ba_19 := ba_18.below b19 ba_18.lt; have bb_19 := bb_18.below b19 bb_18.lt; have br_19 := br_18.below b19 br_18.lt; have bf_19 := bf_18.below b19 bf_18.lt; have bax_19 := bax_18.below b19 bax_18.lt; have F19 := below_then F18 (Nat.le_refl _) b19; have l1b := ob.small s1 (show 1 ≤ 4000 by omega))
            | (go_at_call 32; (with_reducible refine (rone_q _).mono ?_); rintro e w19 ⟨s19, A19, n19, c19, B19, m19, d19, rfl, ob, b19⟩; have hp_19 := hp_z0.below b19; have hq_19 := hq_z0.below b19; have f_19 := f_z0.below b19; have a_19 := a_z0.below b19; have ba_19 := ba_z0.below b19 ba_z0.lt; have bb_19 := bb_z0.below b19 bb_z0.lt; have br_19 := br_z0.below b19 br_z0.lt; have bf_19 := bf_z0.below b19 bf_z0.lt; have bax_19 := bax_z0.below b19 bax_z0.lt; have F19 := below_then F_z0 (Nat.le_refl _) b19; have zb_19 := zb_0.below b19 zb_0.lt; have l1b := ob.small s1 (show 1 ≤ 4000 by omega))
            | (go_at_call 36; (with_reducible refine (rsub_q _ _ _ _ _ _ _ _ _ _ _ _ _ _ _ _ _ _ rfl hp_19 f_19.iq ln lm lf.1 lf.2).mono ?_); rintro e w20 ⟨s20, A20, n20, c20, B20, m20, d20, rfl, db, b20⟩; have hp_20 := hp_19.below b20; have hq_20 := hq_19.below b20; have f_20 := f_19.below b20; have a_20 := a_19.below b20; have ob_20 := ob.below b20; have ba_20 := ba_19.below b20 ba_19.lt; have bb_20 := bb_19.below b20 bb_19.lt; have br_20 := br_19.below b20 br_19.lt; have bf_20 := bf_19.below b20 bf_19.lt; have bax_20 := bax_19.below b20 bax_19.lt; have F20 := below_then F19 (Nat.le_refl _) b20; have zb_20 := zb_19.below b20 zb_19.lt; have l2b := db.small sp kq)
            | (go_at_call 36; (with_reducible refine (rsub_q _ _ _ _ _ _ _ _ _ _ _ _ _ _ _ _ _ _ rfl hp_19 f_19.iq ln lm lf.1 lf.2).mono ?_); rintro e w20 ⟨s20, A20, n20, c20, B20, m20, d20, rfl, db, b20⟩; have hp_20 := hp_19.below b20; have hq_20 := hq_19.below b20; have f_20 := f_19.below b20; have a_20 := a_19.below b20; have ob_20 := ob.below b20; have ba_20 := ba_19.below b20 ba_19.lt; have bb_20 := bb_19.below b20 bb_19.lt; have br_20 := br_19.below b20 br_19.lt; have bf_20 := bf_19.below b20 bf_19.lt; have bax_20 := bax_19.below b20 bax_19.lt; have F20 := below_then F19 (Nat.le_refl _) b20; have l2b := db.small sp kq)
            | (have hp_z20 := hp_19.alloc EQ0; have hq_z20 := hq_19.alloc EQ0; have f_z20 := f_19.alloc EQ0; have a_z20 := a_19.alloc EQ0; have ob_z20 := ob.alloc EQ0; have ba_z20 := ba_19.alloc EQ0; have bb_z20 := bb_19.alloc EQ0; have br_z20 := br_19.alloc EQ0; have bf_z20 := bf_19.alloc EQ0; have bax_z20 := bax_19.alloc EQ0; have lz_ba := ba_19.lt; have lz_bb := bb_19.lt; have lz_br := br_19.lt; have lz_bf := bf_19.lt; have lz_bax := bax_19.lt; have gl := F19.size; have F_z20 := F19.alloc F19.size EQ0; have zb_19 := Sq.new (w19) (.bool false) (.slice none 0 0) (.slice none 0 0); go_at_call 36; (with_reducible refine (rsub_q _ _ _ _ _ _ _ _ _ _ _ _ _ _ _ _ _ _ rfl hp_z20 f_z20.iq ln lm lf.1 lf.2).mono ?_); rintro e w20 ⟨s20, A20, n20, c20, B20, m20, d20, rfl, db, b20⟩; have hp_20 := hp_z20.below b20; have hq_20 := hq_z20.below b20; have f_20 := f_z20.below b20; have a_20 := a_z20.below b20; have ob_20 := ob_z20.below b20; have ba_20 := ba_z20.below b20 ba_z20.lt; have bb_20 := bb_z20.below b20 bb_z20.lt; have br_20 := br_z20.below b20 br_z20.lt; have bf_20 := bf_z20.below b20 bf_z20.lt; have bax_20 := bax_z20.below b20 bax_z20.lt; have F20 := below_then F_z20 (Nat.le_refl _) b20; have zb_20 := zb_19.below b20 zb_19.lt; have l2b := db.small sp kq)
            | (go_at_call 100; (with_reducible refine (rdiv_q _ _ _ _ _ _ _ _ _ _ _ _ _ _ _ _ _ _ rfl np ob_20.iq db.iq l1b.1 l1b.2 l2b.1 l2b.2).mono ?_); rintro e w21 ⟨s21, A21, n21, c21, B21, m21, d21, rfl, b, b21⟩; have hp_21 := hp_20.below b21; have hq_21 := hq_20.below b21; have f_21 := f_20.below b21; have a_21 := a_20.below b21; have ob_21 := ob_20.below b21; have db_21 := db.below b21; have ba_21 := ba_20.below b21 ba_20.lt; have bb_21 := bb_20.below b21 bb_20.lt; have br_21 := br_20.below b21 br_20.lt; have bf_21 := bf_20.below b21 bf_20.lt; have bax_21 := bax_20.below b21 bax_20.lt; have F21 := below_then F20 (Nat.le_refl _) b21; have zb_21 := zb_20.below b21 zb_20.lt; have zk21_0 := zb_21.cell0; have zk21_1 := zb_21.cell1; have zk21_2 := zb_21.cell2; have zf21_0 := zb_21.frozen 0; have zf21_1 := zb_21.frozen 1; have zf21_2 := zb_21.frozen 2)
            | (go_at_call 100; (with_reducible refine (rdiv_q _ _ _ _ _ _ _ _ _ _ _ _ _ _ _ _ _ _ rfl np ob_20.iq db.iq l1b.1 l1b.2 l2b.1 l2b.2).mono ?_); rintro e w21 ⟨s21, A21, n21, c21, B21, m21, d21, rfl, b, b21⟩; have hp_21 := hp_20.below b21; have hq_21 := hq_20.below b21; have f_21 := f_20.below b21; have a_21 := a_20.below b21; have ob_21 := ob_20.below b21; have db_21 := db.below b21; have ba_21 := ba_20.below b21 ba_20.lt; have bb_21 := bb_20.below b21 bb_20.lt; have br_21 := br_20.below b21 br_20.lt; have bf_21 := bf_20.below b21 bf_20.lt; have bax_21 := bax_20.below b21 bax_20.lt; have F21 := below_then F20 (Nat.le_refl _) b21)
            | (have hp_z21 := hp_20.alloc EQ0; have hq_z21 := hq_20.alloc EQ0; have f_z21 := f_20.alloc EQ0; have a_z21 := a_20.alloc EQ0; have ob_z21 := ob_20.alloc EQ0; have db_z21 := db.alloc EQ0; have ba_z21 := ba_20.alloc EQ0; have bb_z21 := bb_20.alloc EQ0; have br_z21 := br_20.alloc EQ0; have bf_z21 := bf_20.alloc EQ0; have bax_z21 := bax_20.alloc EQ0; have lz_ba := ba_20.lt; have lz_bb := bb_20.lt; have lz_br := br_20.lt; have lz_bf := bf_20.lt; have lz_bax := bax_20.lt; have gl := F20.size; have F_z21 := F20.alloc F20.size EQ0; have zb_20 := Sq.new (w20) (.bool false) (.slice none 0 0) (.slice none 0 0); go_at_call 100; (with_reducible refine (rdiv_q _ _ _ _ _ _ _ _ _ _ _ _ _ _ _ _ _ _ rfl np ob_z21.iq db_z21.iq l1b.1 l1b.2 l2b.1 l2b.2).mono ?_); rintro e w21 ⟨s21, A21, n21, c21, B21, m21, d21, rfl, b, b21⟩; have hp_21 := hp_z21.below b21; have hq_21 := hq_z21.below b21; have f_21 := f_z21.below b21; have a_21 := a_z21.below b21; have ob_21 := ob_z21.below b21; have db_21 := db_z21.below b21; have ba_21 := ba_z21.below b21 ba_z21.lt; have bb_21 := bb_z21.below b21 bb_z21.lt; have br_21 := br_z21.below b21 br_z21.lt; have bf_21 := bf_z21.below b21 bf_z21.lt; have bax_21 := bax_z21.below b21 bax_z21.lt; have F21 := below_then F_z21 (Nat.le_refl _) b21; have zb_21 := zb_20.below b21 zb_20.lt; have zk21_0 := zb_21.cell0; have zk21_1 := zb_21.cell1; have zk21_2 := zb_21.cell2; have zf21_0 := zb_21.frozen 0; have zf21_1 := zb_21.frozen 1; have zf21_2 := zb_21.frozen 2)
            | fail)
        all_goals (go_wp2_with fail; go_meet; first | exact ⟨_, _, s19, A19, n19, c19, B19, m19, d19, s20, A20, n20, c20, B20, m20, d20, s21, A21, n21, c21, B21, m21, d21, rfl, rfl, zb_21.stor, gl, lz_ba, lz_bb, lz_br, lz_bf, lz_bax, ba_21.past (Nat.ne_of_lt lz_ba), bb_21.past (Nat.ne_of_lt lz_bb), br_21.past (Nat.ne_of_lt lz_br), bf_21.past (Nat.ne_of_lt lz_bf), bax_21.past (Nat.ne_of_lt lz_bax), hp_21.storQ zb_21 (.bool s21) (.slice A21 n21 c21) (.slice B21 m21 d21), hq_21.storQ zb_21 (.bool s21) (.slice A21 n21 c21) (.slice B21 m21 d21), f_21.storQ zb_21 (.bool s21) (.slice A21 n21 c21) (.slice B21 m21 d21), a_21.storQ zb_21 (.bool s21) (.slice A21 n21 c21) (.slice B21 m21 d21), b.storQ zb_21 (.bool s21) (.slice A21 n21 c21) (.slice B21 m21 d21), below_storQ F21 gl⟩ | exact ⟨_, _, s19, A19, n19, c19, B19, m19, d19, s20, A20, n20, c20, B20, m20, d20, s21, A21, n21, c21, B21, m21, d21, rfl, rfl, Sq.new w21 (.bool s21) (.slice A21 n21 c21) (.slice B21 m21 d21), F21.size, ba_21.lt, bb_21.lt, br_21.lt, bf_21.lt, bax_21.lt, ba_21.alloc (EQ s21 A21 n21 c21 B21 m21 d21), bb_21.alloc (EQ s21 A21 n21 c21 B21 m21 d21), br_21.alloc (EQ s21 A21 n21 c21 B21 m21 d21), bf_21.alloc (EQ s21 A21 n21 c21 B21 m21 d21), bax_21.alloc (EQ s21 A21 n21 c21 B21 m21 d21), hp_21.alloc (EQ s21 A21 n21 c21 B21 m21 d21), hq_21.alloc (EQ s21 A21 n21 c21 B21 m21 d21), f_21.alloc (EQ s21 A21 n21 c21 B21 m21 d21), a_21.alloc (EQ s21 A21 n21 c21 B21 m21 d21), b.alloc (EQ s21 A21 n21 c21 B21 m21 d21), F21.alloc F21.size _⟩ | fail)
      case rest =>
        obtain ⟨wx17, g22, s19, A19, n19, c19, B19, m19, d19, s20, A20, n20, c20, B20, m20, d20, s21, A21, n21, c21, B21, m21, d21, rfl, rfl, bbx_22, gl_22, lt_bbx_ba, lt_bbx_bb, lt_bbx_br, lt_bbx_bf, lt_bbx_bax, ba_22, bb_22, br_22, bf_22, bax_22, hp_22, hq_22, f_22, a_22, b_22, F22⟩ := hcut
        have lb := b_22.tiny sb
        go_upto_region 9 with fail
        go_cut [11] (fun sx22 wy => ∃ (wx22 : World) (g : Nat) (s24 : Bool) (A24 : Option Addr) (n24 : Nat) (c24 : Nat) (B24 : Option Addr) (m24 : Nat) (d24 : Nat) (s25 : Bool) (A25 : Option Addr) (n25 : Nat) (c25 : Nat) (B25 : Option Addr) (m25 : Nat) (d25 : Nat) (s26 : Bool) (A26 : Option Addr) (n26 : Nat) (c26 : Nat) (B26 : Option Addr) (m26 : Nat) (d26 : Nat), wx22 = wy ∧ sx22 = .pointer (some ⟨g, 0, none⟩) ∧ Sq wx22 g (.bool s26) (.slice A26 n26 c26) (.slice B26 m26 d26) ∧ w.heap.size ≤ g ∧ w.heap.size + 2 < g ∧ w5.heap.size < g ∧ g17 < g ∧ g22 < g ∧ Sq wx22 (w.heap.size + 2) (.bool false) (.slice none 0 0) (.slice none 0 0) ∧ Sq wx22 (w5.heap.size) (.bool s5) (.slice A5 n5 c5) (.slice B5 m5 d5) ∧ Sq wx22 (g17) (.bool s16) (.slice A16 n16 c16) (.slice B16 m16 d16) ∧ Sq wx22 (g22) (.bool s21) (.slice A21 n21 c21) (.slice B21 m21 d21) ∧ Cq wx22 s5 A5 n5 c5 B5 m5 d5 (fl : Rat) ∧ Cq wx22 s16 A16 n16 c16 B16 m16 d16 (1 / (q - (fl : Rat))) ∧ Cq wx22 s21 A21 n21 c21 B21 m21 d21 (1 / (p - (fl : Rat))) ∧ Cq wx22 s26 A26 n26 c26 B26 m26 d26 (1 / y) ∧ Below w.heap.size w wx22)
        case first =>
          have f_23 := f_22.drew
          have a_23 := a_22.drew
          have b_23 := b_22.drew
          have br_23 := br_22.drew
          have bf_23 := bf_22.drew
          have bax_23 := bax_22.drew
          have bbx_23 := bbx_22.drew
          have F23 := F22.drew
          have f_z0 := (f_22.alloc EQ0).drew
          have a_z0 := (a_22.alloc EQ0).drew
          have b_z0 := (b_22.alloc EQ0).drew
          have br_z0 := (br_22.alloc EQ0).drew
          have bf_z0 := (bf_22.alloc EQ0).drew
          have bax_z0 := (bax_22.alloc EQ0).drew
          have bbx_z0 := (bbx_22.alloc EQ0).drew
          have lz_br := br_22.lt
          have lz_bf := bf_22.lt
          have lz_bax := bax_22.lt
          have lz_bbx := bbx_22.lt
          have gl := F22.size
          have F_z0 := (F22.alloc F22.size EQ0).drew
          have zb_0 : Sq ((wx17).alloc EQ0).drew (wx17.heap.size) (.bool false) (.slice none 0 0) (.slice none 0 0) := by have h_ := Sq.new (wx17) (.bool false) (.slice none 0 0) (.slice none 0 0); exact h_.drew
          go_region_held3 (fun w' => w'.cell? ⟨g17, 0, none⟩ = some (.bool s16) ∧ w'.cell? ⟨g17, 1, none⟩ = some (.slice A16 n16 c16) ∧ w'.cell? ⟨g17, 2, none⟩ = some (.slice B16 m16 d16) ∧ w'.cell? ⟨g22, 0, none⟩ = some (.bool s21) ∧ w'.cell? ⟨g22, 1, none⟩ = some (.slice A21 n21 c21) ∧ w'.cell? ⟨g22, 2, none⟩ = some (.slice B21 m21 d21))
            (first
              | with_reducible exact ⟨(bax_26.alloc (EQ s26 A26 n26 c26 B26 m26 d26)).cell0, (bax_26.alloc (EQ s26 A26 n26 c26 B26 m26 d26)).cell1, (bax_26.alloc (EQ s26 A26 n26 c26 B26 m26 d26)).cell2, (bbx_26.alloc (EQ s26 A26 n26 c26 B26 m26 d26)).cell0, (bbx_26.alloc (EQ s26 A26 n26 c26 B26 m26 d26)).cell1, (bbx_26.alloc (EQ s26 A26 n26 c26 B26 m26 d26)).cell2⟩
              | with_reducible exact ⟨(bax_26.past (u0 := .bool s26) (u1 := .slice A26 n26 c26) (u2 := .slice B26 m26 d26) (Nat.ne_of_lt lz_bax)).cell0, (bax_26.past (u0 := .bool s26) (u1 := .slice A26 n26 c26) (u2 := .slice B26 m26 d26) (Nat.ne_of_lt lz_bax)).cell1, (bax_26.past (u0 := .bool s26) (u1 := .slice A26 n26 c26) (u2 := .slice B26 m26 d26) (Nat.ne_of_lt lz_bax)).cell2, (bbx_26.past (u0 := .bool s26) (u1 := .slice A26 n26 c26) (u2 := .slice B26 m26 d26) (Nat.ne_of_lt lz_bbx)).cell0, (bbx_26.past (u0 := .bool s26) (u1 := .slice A26 n26 c26) (u2 := .slice B26 m26 d26) (Nat.ne_of_lt lz_bbx)).cell1, (bbx_26.past (u0 := .bool s26) (u1 := .slice A26 n26 c26) (u2 := .slice B26 m26 d26) (Nat.ne_of_lt lz_bbx)).cell2⟩
              | with_reducible exact ⟨(bax_26.alloc EQ0).cell0, (bax_26.alloc EQ0).cell1, (bax_26.alloc EQ0).cell2, (bbx_26.alloc EQ0).cell0, (bbx_26.alloc EQ0).cell1, (bbx_26.alloc EQ0).cell2⟩
              | with_reducible exact ⟨bax_26.cell0, bax_26.cell1, bax_26.cell2, bbx_26.cell0, bbx_26.cell1, bbx_26.cell2⟩
              | with_reducible exact ⟨bax_25.alloc EQ0 |>.cell0, bax_25.alloc EQ0 |>.cell1, bax_25.alloc EQ0 |>.cell2, bbx_25.alloc EQ0 |>.cell0, bbx_25.alloc EQ0 |>.cell1, bbx_25.alloc EQ0 |>.cell2⟩
              | with_reducible exact ⟨(bax_25.alloc EQ0).cell0, (bax_25.alloc EQ0).cell1, (bax_25.alloc EQ0).cell2, (bbx_25.alloc EQ0).cell0, (bbx_25.alloc EQ0).cell1, (bbx_25.alloc EQ0).cell2⟩
              | with_reducible exact ⟨bax_25.cell0, bax_25.cell1, bax_25.cell2, bbx_25.cell0, bbx_25.cell1, bbx_25.cell2⟩
              | with_reducible exact ⟨bax_24.alloc EQ0 |>.cell0, bax_24.alloc EQ0 |>.cell1, bax_24.alloc EQ0 |>.cell2, bbx_24.alloc EQ0 |>.cell0, bbx_24.alloc EQ0 |>.cell1, bbx_24.alloc EQ0 |>.cell2⟩
              | with_reducible exact ⟨(bax_24.alloc EQ0).cell0, (bax_24.alloc EQ0).cell1, (bax_24.alloc EQ0).cell2, (bbx_24.alloc EQ0).cell0, (bbx_24.alloc EQ0).cell1, (bbx_24.alloc EQ0).cell2⟩
              | with_reducible exact ⟨bax_24.cell0, bax_24.cell1, bax_24.cell2, bbx_24.cell0, bbx_24.cell1, bbx_24.cell2⟩
              | with_reducible exact ⟨bax_z0.cell0, bax_z0.cell1, bax_z0.cell2, bbx_z0.cell0, bbx_z0.cell1, bbx_z0.cell2⟩
              | with_reducible exact ⟨bax_23.cell0, bax_23.cell1, bax_23.cell2, bbx_23.cell0, bbx_23.cell1, bbx_23.cell2⟩
              | fail)
            (first
              | (go_at_call 32; (with_reducible refine (rone_q _).mono ?_); rintro e w24 ⟨s24, A24, n24, c24, B24, m24, d24, rfl, oy, b24⟩; have f_24 := f_23.below b24; have a_24 := a_23.below b24; have b_24 := b_23.below b24; have br_24 := br_23.below b24 br_23.lt; have bf_24 := bf_23.below b24 bf_23.lt; have bax_24 := bax_23.below b24 bax_23.lt; have bbx_24 := bbx_23.below b24 bbx_23.lt; have F24 := below_then F23 (Nat.le_refl _) b24; have l1y := oy.small s1 (show 1 ≤ 4000 by omega))
              | (go_at_call 32; (with_reducible refine (rone_q _).mono ?_); rintro e w24 ⟨s24, A24, n24, c24, B24, m24, d24, rfl, oy, b24⟩; have f_24 := f_z0.below b24; have a_24 := a_z0.below b24; have b_24 := b_z0.below b24; have br_24 := br_z0.below b24 br_z0.lt; have bf_24 := bf_z0.below b24 bf_z0.lt; have bax_24 := bax_z0.below b24 bax_z0.lt; have bbx_24 := bbx_z0.below b24 bbx_z0.lt; have F24 := below_then F_z0 (Nat.le_refl _) b24; have zb_24 := zb_0.below b24 zb_0.lt; have l1y := oy.small s1 (show 1 ≤ 4000 by omega))
              | (go_at_call 74; (with_reducible refine (HIH.out _ _ _ _ _ _ _ _ _ _ _ _ _ _ _ a_24.iq b_24.iq la.1 la.2 lb.1 lb.2).mono ?_); rintro e w25 ⟨s25, A25, n25, c25, B25, m25, d25, rfl, y1, b25⟩; have f_25 := f_24.below b25; have a_25 := a_24.below b25; have b_25 := b_24.below b25; have oy_25 := oy.below b25; have br_25 := br_24.below b25 br_24.lt; have bf_25 := bf_24.below b25 bf_24.lt; have bax_25 := bax_24.below b25 bax_24.lt; have bbx_25 := bbx_24.below b25 bbx_24.lt; have F25 := below_then F24 (Nat.le_refl _) b25; have zb_25 := zb_24.below b25 zb_24.lt; have l2y := y1.small hy k4)
              | (go_at_call 74; (with_reducible refine (HIH.out _ _ _ _ _ _ _ _ _ _ _ _ _ _ _ a_24.iq b_24.iq la.1 la.2 lb.1 lb.2).mono ?_); rintro e w25 ⟨s25, A25, n25, c25, B25, m25, d25, rfl, y1, b25⟩; have f_25 := f_24.below b25; have a_25 := a_24.below b25; have b_25 := b_24.below b25; have oy_25 := oy.below b25; have br_25 := br_24.below b25 br_24.lt; have bf_25 := bf_24.below b25 bf_24.lt; have bax_25 := bax_24.below b25 bax_24.lt; have bbx_25 := bbx_24.below b25 bbx_24.lt; have F25 := below_then F24 (Nat.le_refl _) b25; have l2y := y1.small hy k4)
              | (have f_z25 := f_24.alloc EQ0; have a_z25 := a_24.alloc EQ0; have b_z25 := b_24.alloc EQ0; have oy_z25 := oy.alloc EQ0; have br_z25 := br_24.alloc EQ0; have bf_z25 := bf_24.alloc EQ0; have bax_z25 := bax_24.alloc EQ0; have bbx_z25 := bbx_24.alloc EQ0; have lz_br := br_24.lt; have lz_bf := bf_24.lt; have lz_bax := bax_24.lt; have lz_bbx := bbx_24.lt; have gl := F24.size; have F_z25 := F24.alloc F24.size EQ0; have zb_24 := Sq.new (w24) (.bool false) (.slice none 0 0) (.slice none 0 0); go_at_call 74; (with_reducible refine (HIH.out _ _ _ _ _ _ _ _ _ _ _ _ _ _ _ a_z25.iq b_z25.iq la.1 la.2 lb.1 lb.2).mono ?_); rintro e w25 ⟨s25, A25, n25, c25, B25, m25, d25, rfl, y1, b25⟩; have f_25 := f_z25.below b25; have a_25 := a_z25.below b25; have b_25 := b_z25.below b25; have oy_25 := oy_z25.below b25; have br_25 := br_z25.below b25 br_z25.lt; have bf_25 := bf_z25.below b25 bf_z25.lt; have bax_25 := bax_z25.below b25 bax_z25.lt; have bbx_25 := bbx_z25.below b25 bbx_z25.lt; have F25 := below_then F_z25 (Nat.le_refl _) b25; have zb_25 := zb_24.below b25 zb_24.lt; have l2y := y1.small hy k4)
              | (go_at_call 100; (with_reducible refine (rdiv_q _ _ _ _ _ _ _ _ _ _ _ _ _ _ _ _ _ _ rfl hy0 oy_25.iq y1.iq l1y.1 l1y.2 l2y.1 l2y.2).mono ?_); rintro e w26 ⟨s26, A26, n26, c26, B26, m26, d26, rfl, y, b26⟩; have f_26 := f_25.below b26; have a_26 := a_25.below b26; have b_26 := b_25.below b26; have oy_26 := oy_25.below b26; have y1_26 := y1.below b26; have br_26 := br_25.below b26 br_25.lt; have bf_26 := bf_25.below b26 bf_25.lt; have bax_26 := bax_25.below b26 bax_25.lt; have bbx_26 := bbx_25.below b26 bbx_25.lt; have F26 := below_then F25 (Nat.le_refl _) b26; have zb_26 := zb_25.below b26 zb_25.lt; have zk26_0 := zb_26.cell0; have zk26_1 := zb_26.cell1; have zk26_2 := zb_26.cell2; have zf26_0 := zb_26.frozen 0; have zf26_1 := zb_26.frozen 1; have zf26_2 := zb_26.frozen 2)
              | (go_at_call 100; (with_reducible refine (rdiv_q _ _ _ _ _ _ _ _ _ _ _ _ _ _ _ _ _ _ rfl hy0 oy_25.iq y1.iq l1y.1 l1y.2 l2y.1 l2y.2).mono ?_); rintro e w26 ⟨s26, A26, n26, c26, B26, m26, d26, rfl, y, b26⟩; have f_26 := f_25.below b26; have a_26 := a_25.below b26; have b_26 := b_25.below b26; have oy_26 := oy_25.below b26; have y1_26 := y1.below b26; have br_26 := br_25.below b26 br_25.lt; have bf_26 := bf_25.below b26 bf_25.lt; have bax_26 := bax_25.below b26 bax_25.lt; have bbx_26 := bbx_25.below b26 bbx_25.lt; have F26 := below_then F25 (Nat.le_refl _) b26)
              | (have f_z26 := f_25.alloc EQ0; have a_z26 := a_25.alloc EQ0; have b_z26 := b_25.alloc EQ0; have oy_z26 := oy_25.alloc EQ0; have y1_z26 := y1.alloc EQ0; have br_z26 := br_25.alloc EQ0; have bf_z26 := bf_25.alloc EQ0; have bax_z26 := bax_25.alloc EQ0; have bbx_z26 := bbx_25.alloc EQ0; have lz_br := br_25.lt; have lz_bf := bf_25.lt; have lz_bax := bax_25.lt; have lz_bbx := bbx_25.lt; have gl := F25.size; have F_z26 := F25.alloc F25.size EQ0; have zb_25 := Sq.new (w25) (.bool false) (.slice none 0 0) (.slice none 0 0); go_at_call 100; (with_reducible refine (rdiv_q _ _ _ _ _ _ _ _ _ _ _ _ _ _ _ _ _ _ rfl hy0 oy_z26.iq y1_z26.iq l1y.1 l1y.2 l2y.1 l2y.2).mono ?_); rintro e w26 ⟨s26, A26, n26, c26, B26, m26, d26, rfl, y, b26⟩; have f_26 := f_z26.below b26; have a_26 := a_z26.below b26; have b_26 := b_z26.below b26; have oy_26 := oy_z26.below b26; have y1_26 := y1_z26.below b26; have br_26 := br_z26.below b26 br_z26.lt; have bf_26 := bf_z26.below b26 bf_z26.lt; have bax_26 := bax_z26.below b26 bax_z26.lt; have bbx_26 := bbx_z26.below b26 bbx_z26.lt; have F26 := below_then F_z26 (Nat.le_refl _) b26; have zb_26 := zb_25.below b26 zb_25.lt; have zk26_0 := zb_26.cell0; have zk26_1 := zb_26.cell1; have zk26_2 := zb_26.cell2; have zf26_0 := zb_26.frozen 0; have zf26_1 := zb_26.frozen 1; have zf26_2 := zb_26.frozen 2)
              | fail)
          all_goals (go_wp2_with fail; go_meet; first | exact ⟨_, _, s24, A24, n24, c24, B24, m24, d24, s25, A25, n25, c25, B25, m25, d25, s26, A26, n26, c26, B26, m26, d26, rfl, rfl, zb_26.stor, gl, lz_br, lz_bf, lz_bax, lz_bbx, br_26.past (Nat.ne_of_lt lz_br), bf_26.past (Nat.ne_of_lt lz_bf), bax_26.past (Nat.ne_of_lt lz_bax), bbx_26.past (Nat.ne_of_lt lz_bbx), f_26.storQ zb_26 (.bool s26) (.slice A26 n26 c26) (.slice B26 m26 d26), a_26.storQ zb_26 (.bool s26) (.slice A26 n26 c26) (.slice B26 m26 d26), b_26.storQ zb_26 (.bool s26) (.slice A26 n26 c26) (.slice B26 m26 d26), y.storQ zb_26 (.bool s26) (.slice A26 n26 c26) (.slice B26 m26 d26), below_storQ F26 gl⟩ | exact ⟨_, _, s24, A24, n24, c24, B24, m24, d24, s25, A25, n25, c25, B25, m25, d25, s26, A26, n26, c26, B26, m26, d26, rfl, rfl, Sq.new w26 (.bool s26) (.slice A26 n26 c26) (.slice B26 m26 d26), F26.size, br_26.lt, bf_26.lt, bax_26.lt, bbx_26.lt, br_26.alloc (EQ s26 A26 n26 c26 B26 m26 d26), bf_26.alloc (EQ s26 A26 n26 c26 B26 m26 d26), bax_26.alloc (EQ s26 A26 n26 c26 B26 m26 d26), bbx_26.alloc (EQ s26 A26 n26 c26 B26 m26 d26), f_26.alloc (EQ s26 A26 n26 c26 B26 m26 d26), a_26.alloc (EQ s26 A26 n26 c26 B26 m26 d26), b_26.alloc (EQ s26 A26 n26 c26 B26 m26 d26), y.alloc (EQ s26 A26 n26 c26 B26 m26 d26), F26.alloc F26.size _⟩ | fail)
        case rest =>
          obtain ⟨wx22, g27, s24, A24, n24, c24, B24, m24, d24, s25, A25, n25, c25, B25, m25, d25, s26, A26, n26, c26, B26, m26, d26, rfl, rfl, byx_27, gl_27, lt_byx_br, lt_byx_bf, lt_byx_bax, lt_byx_bbx, br_27, bf_27, bax_27, bbx_27, f_27, a_27, b_27, y_27, F27⟩ := hcut
          have ly := y_27.small sy ky
          have br_u27 := br_27.cell0
          have br_v27 := br_27.cell1
          have br_w27 := br_27.cell2
          have bf_u27 := bf_27.cell0
          have bf_v27 := bf_27.cell1
          have bf_w27 := bf_27.cell2
          have bax_u27 := bax_27.cell0
          have bax_v27 := bax_27.cell1
          have bax_w27 := bax_27.cell2
          have bbx_u27 := bbx_27.cell0
          have bbx_v27 := bbx_27.cell1
          have bbx_w27 := bbx_27.cell2
          have byx_u27 := byx_27.cell0
          have byx_v27 := byx_27.cell1
          have byx_w27 := byx_27.cell2
          go_wp2_with fail
          refine (radd_q _ _ _ _ _ _ _ _ _ _ _ _ _ _ _ _ _ _ rfl f_27.iq y_27.iq lf.1 lf.2 ly.1 ly.2).mono ?_
          rintro e w28 ⟨s28, A28, n28, c28, B28, m28, d28, rfl, z, b28⟩
          have f_28 := f_27.below b28
          have a_28 := a_27.below b28
          have b_28 := b_27.below b28
          have y_28 := y_27.below b28
          have br_28 := br_27.below b28 br_27.lt
          have bf_28 := bf_27.below b28 bf_27.lt
          have bax_28 := bax_27.below b28 bax_27.lt
          have bbx_28 := bbx_27.below b28 bbx_27.lt
          have byx_28 := byx_27.below b28 byx_27.lt
          have F28 := below_then F27 (Nat.le_refl _) b28
          have br_u28 := br_28.cell0
          have br_v28 := br_28.cell1
          have br_w28 := br_28.cell2
          have bf_u28 := bf_28.cell0
          have bf_v28 := bf_28.cell1
          have bf_w28 := bf_28.cell2
          have bax_u28 := bax_28.cell0
          have bax_v28 := bax_28.cell1
          have bax_w28 := bax_28.cell2
          have bbx_u28 := bbx_28.cell0
          have bbx_v28 := bbx_28.cell1
          have bbx_w28 := bbx_28.cell2
          have byx_u28 := byx_28.cell0
          have byx_v28 := byx_28.cell1
          have byx_w28 := byx_28.cell2
          have br_f028 := br_28.frozen 0
          have br_f128 := br_28.frozen 1
          have br_f228 := br_28.frozen 2
          go_wp2_with fail
          refine bodyPost_ret (v := .agg #[.bool s28, .slice A28 n28 c28, .slice B28 m28 d28]) (by simp [results, Try.results74, go_sem, (br_28.set0 (.bool s28)).cell0, ((br_28.set0 (.bool s28)).set1 (.slice A28 n28 c28)).cell1, (((br_28.set0 (.bool s28)).set1 (.slice A28 n28 c28)).set2 (.slice B28 m28 d28)).cell2]) rfl (gq_end F28 (by omega) br_28 z)
end Go.Proofs.Ytabgniijlofapaa

/-
  The specification's positive and Simplest; what Simplest finds.
-/
namespace Go.Proofs.Ytabgniijlofapaa
open Go.RowKit
set_option linter.unusedVariables false
set_option linter.unusedSimpArgs false

theorem simp_size {lo hi r : Rat} {K : Nat} (h0 : 0 < lo) (h : Simp lo hi r) (hs : Qs K lo) (hle : lo ≤ hi) : 0 < r ∧ Qs K r := by
  have hr : 0 < r := lt_le h0 h.1
  have h1 := h.2.2 lo Rat.le_refl hle
  have n1 := num_pos h0
  have n2 := num_pos hr
  exact ⟨hr, Nat.lt_of_le_of_lt (by omega) hs.1, Nat.lt_of_le_of_lt h1.1 hs.2⟩
theorem rpos_q : ∀ (k_ : Nat) (s t : Bool) (A B A' B' : Option Addr) (n c m d n' c' m' d' : Nat) (p q : Rat) (w : World) (K : Nat) (hK : K ≤ 1000) (hK1 : 1 ≤ K) (h0 : 0 < p) (hpq : p ≤ q) (hk : p.den + q.den ≤ k_) (hs : Qs K p) (ht : Qs K q) (h : Iq w s A n c B m d p) (k : Iq w t A' n' c' B' m' d' q) (hn : n ≤ K) (hm : m ≤ K) (hn' : n' ≤ K) (hm' : m' ≤ K),
    Calls Try.prog 74 #[.agg #[.bool s, .slice A n c, .slice B m d], .agg #[.bool t, .slice A' n' c', .slice B' m' d']] w (GQ w (spos k_ p q)) := by
  intro k
  induction k with
  | zero =>
    intro s t A B A' B' n c m d n' c' m' d' p q w K hK hK1 h0 hpq hk
    have := p.den_nz
    omega
  | succ k ih =>
    intro s t A B A' B' n c m d n' c' m' d' p q w K hK hK1 h0 hpq hk hs ht h h' hn hm hn' hm'
    obtain ⟨fl, hf⟩ : ∃ f, qfl p = f := ⟨_, rfl⟩
    unfold spos
    rw [hf]
    by_cases h1 : (fl : Rat) = p
    · rw [if_pos h1]
      exact pos_int s t A B A' B' n c m d n' c' m' d' p q fl w K hK hK1 hs ht hf h h' hn hm hn' hm' h1
    · rw [if_neg h1]
      by_cases h2 : (fl : Rat) + 1 ≤ q
      · rw [if_pos h2]
        exact pos_up s t A B A' B' n c m d n' c' m' d' p q fl w K hK hK1 hs ht hf h h' hn hm hn' hm' h1 h2
      · rw [if_neg h2]
        obtain ⟨t1, t2, t3, t4, t5, t6, t7, t8, t9⟩ := step_facts fl hf hpq h1 h2
        have sa : Qs K (1 / (q - (fl : Rat))) := size_parts t8 ht.2 t6
        have sb : Qs K (1 / (p - (fl : Rat))) := size_parts t9 hs.2 t7
        have hy := spos_simp k _ _ t4 t5 (by omega)
        obtain ⟨y0, ys⟩ := simp_size t4 hy sa t5
        refine pos_rec s t A B A' B' n c m d n' c' m' d' p q fl w K hK hK1 hs ht hf h h' hn hm hn' hm' h1 h2 hpq _ (fun e => by rw [e] at y0; exact absurd y0 (by decide)) ys ?_
        intro s t A B A' B' n c m d n' c' m' d' w ha hb h3 h4 h5 h6
        exact ih s t A B A' B' n c m d n' c' m' d' _ _ w K hK hK1 t4 t5 (by omega) sa sb ha hb h3 h4 h5 h6
/-- The simplest number between two. -/
def smp (lo hi : Rat) : Rat := if lo ≤ 0 ∧ 0 ≤ hi then 0 else if hi < 0 then -(spos (hi.den + lo.den) (-hi) (-lo)) else spos (lo.den + hi.den) lo hi
theorem sz_lt {z : Int} : sz z < 0 ↔ z < 0 := sz_neg
theorem num_le0 {q : Rat} : q.num ≤ 0 ↔ q ≤ 0 := by
  have := Rat.le_iff q 0
  simpa using this.symm
theorem num_ge0 {q : Rat} : 0 ≤ q.num ↔ 0 ≤ q := Rat.num_nonneg
theorem num_lt0 {q : Rat} : q.num < 0 ↔ q < 0 := by
  have := Rat.lt_iff q 0
  simpa using this.symm
theorem sz_ge {z : Int} : 0 ≤ sz z ↔ 0 ≤ z := by
  unfold sz
  (repeat' split) <;> omega
theorem smp_range (s t : Bool) (A B A' B' : Option Addr) (n c m d n' c' m' d' : Nat) (p q : Rat) (w : World) (K : Nat) (hK : K ≤ 1000) (hK1 : 1 ≤ K) (h : Iq w s A n c B m d p) (k : Iq w t A' n' c' B' m' d' q) (hn : n ≤ K) (hm : m ≤ K) (hn' : n' ≤ K) (hm' : m' ≤ K) (hpq : ¬ p ≤ q) :
    Calls Try.prog 49 #[.agg #[.bool s, .slice A n c, .slice B m d], .agg #[.bool t, .slice A' n' c', .slice B' m' d']] w (GQE w 0 2) := by
  have hs : Qs K p := h.size hn hm hK1
  have ht : Qs K q := k.size hn' hm' hK1
  have ln : n ≤ 4000 := by omega
  have lm : m ≤ 4000 := by omega
  have ln' : n' ≤ 4000 := by omega
  have lm' : m' ≤ 4000 := by omega
  have l1 : n ≤ 16384 := by omega
  have l2 : m ≤ 16384 := by omega
  have l3 : n' ≤ 16384 := by omega
  have l4 : m' ≤ 16384 := by omega
  have k16 : K ≤ 16384 := by omega
  obtain ⟨r0, hr0⟩ : ∃ r, sz (p - q).num = r := ⟨_, rfl⟩
  obtain ⟨r1, hr1⟩ : ∃ r, sz p.num = r := ⟨_, rfl⟩
  obtain ⟨r2, hr2⟩ : ∃ r, sz q.num = r := ⟨_, rfl⟩
  have H0 := hide hr0
  have H1 := hide hr1
  have H2 := hide hr2
  have hp := h
  have hq := k
  have d0 : decide (0 < r0) = true := by rw [← hr0]; exact decide_eq_true (by have := cmp_le (p := p) (q := q); have h3 : ¬ sz (p - q).num ≤ 0 := fun e => hpq (this.1 e); omega)
  clear hpq h k hr0 hr1 hr2
  have hp_1 := hp.alloc (EQ s A n c B m d)
  have hq_1 := hq.alloc (EQ s A n c B m d)
  have ba_1 : Sq ((w).alloc (EQ s A n c B m d)) (w.heap.size) (.bool s) (.slice A n c) (.slice B m d) := by have h_ := Sq.new (w) (.bool s) (.slice A n c) (.slice B m d); exact h_
  have F1 := (Below.refl w.heap.size w).alloc (Nat.le_refl _) (EQ s A n c B m d)
  have hp_2 := hp_1.alloc (EQ t A' n' c' B' m' d')
  have hq_2 := hq_1.alloc (EQ t A' n' c' B' m' d')
  have ba_2 := ba_1.alloc (EQ t A' n' c' B' m' d')
  have bb_2 : Sq (((w).alloc (EQ s A n c B m d)).alloc (EQ t A' n' c' B' m' d')) (w.heap.size + 1) (.bool t) (.slice A' n' c') (.slice B' m' d') := by have h_ := Sq.new ((w).alloc (EQ s A n c B m d)) (.bool t) (.slice A' n' c') (.slice B' m' d'); simp only [World.size_alloc] at h_; exact h_
  have F2 := F1.alloc F1.size (EQ t A' n' c' B' m' d')
  have hp_3 := hp_2.alloc EQ0
  have hq_3 := hq_2.alloc EQ0
  have ba_3 := ba_2.alloc EQ0
  have bb_3 := bb_2.alloc EQ0
  have br_3 : Sq ((((w).alloc (EQ s A n c B m d)).alloc (EQ t A' n' c' B' m' d')).alloc EQ0) (w.heap.size + 2) (.bool false) (.slice none 0 0) (.slice none 0 0) := by have h_ := Sq.new (((w).alloc (EQ s A n c B m d)).alloc (EQ t A' n' c' B' m' d')) (.bool false) (.slice none 0 0) (.slice none 0 0); simp only [World.size_alloc] at h_; exact h_
  have F3 := F2.alloc F2.size EQ0
  go_enter Try.func49, Try.ntmps49
  go_wp2_with fail
  refine (rcmp_q _ _ _ _ _ _ _ _ _ _ _ _ _ _ _ _ _ _ H0.out hp_3 hq_3 ln lm ln' lm').mono ?_
  rintro e w4 ⟨rfl, b4⟩
  have hp_4 := hp_3.below b4
  have hq_4 := hq_3.below b4
  have ba_4 := ba_3.below b4 ba_3.lt
  have bb_4 := bb_3.below b4 bb_3.lt
  have br_4 := br_3.below b4 br_3.lt
  have F4 := below_then F3 (Nat.le_refl _) b4
  have ba_u4 := ba_4.cell0
  have ba_v4 := ba_4.cell1
  have ba_w4 := ba_4.cell2
  have bb_u4 := bb_4.cell0
  have bb_v4 := bb_4.cell1
  have bb_w4 := bb_4.cell2
  have br_u4 := br_4.cell0
  have br_v4 := br_4.cell1
  have br_w4 := br_4.cell2
  have br_f04 := br_4.frozen 0
  have br_f14 := br_4.frozen 1
  have br_f24 := br_4.frozen 2
  go_wp2_with fail
  refine bodyPost_ret (v := .tuple #[.agg #[.bool false, .slice none 0 0, .slice none 0 0], .int .i64 2]) (by simp [results, Try.results49, go_sem, (br_4.set0 (.bool false)).cell0, ((br_4.set0 (.bool false)).set1 (.slice none 0 0)).cell1, (((br_4.set0 (.bool false)).set1 (.slice none 0 0)).set2 (.slice none 0 0)).cell2]) rfl (gqe_end 2 F4 (by omega) br_4 (cq_zero _))
theorem smp_zero (s t : Bool) (A B A' B' : Option Addr) (n c m d n' c' m' d' : Nat) (p q : Rat) (w : World) (K : Nat) (hK : K ≤ 1000) (hK1 : 1 ≤ K) (h : Iq w s A n c B m d p) (k : Iq w t A' n' c' B' m' d' q) (hn : n ≤ K) (hm : m ≤ K) (hn' : n' ≤ K) (hm' : m' ≤ K) (hpq : p ≤ q) (h1 : p ≤ 0) (h2 : 0 ≤ q) :
    Calls Try.prog 49 #[.agg #[.bool s, .slice A n c, .slice B m d], .agg #[.bool t, .slice A' n' c', .slice B' m' d']] w (GQE w 0 0) := by
  have hs : Qs K p := h.size hn hm hK1
  have ht : Qs K q := k.size hn' hm' hK1
  have ln : n ≤ 4000 := by omega
  have lm : m ≤ 4000 := by omega
  have ln' : n' ≤ 4000 := by omega
  have lm' : m' ≤ 4000 := by omega
  have l1 : n ≤ 16384 := by omega
  have l2 : m ≤ 16384 := by omega
  have l3 : n' ≤ 16384 := by omega
  have l4 : m' ≤ 16384 := by omega
  have k16 : K ≤ 16384 := by omega
  obtain ⟨r0, hr0⟩ : ∃ r, sz (p - q).num = r := ⟨_, rfl⟩
  obtain ⟨r1, hr1⟩ : ∃ r, sz p.num = r := ⟨_, rfl⟩
  obtain ⟨r2, hr2⟩ : ∃ r, sz q.num = r := ⟨_, rfl⟩
  have H0 := hide hr0
  have H1 := hide hr1
  have H2 := hide hr2
  have hp := h
  have hq := k
  have d0 : decide (0 < r0) = false := by rw [← hr0]; exact decide_eq_false (by have := cmp_le.2 hpq; omega)
  have d1 : decide (r1 ≤ 0) = true := by rw [← hr1]; exact decide_eq_true (sz_le.2 (num_le0.2 h1))
  have d2 : decide (0 ≤ r2) = true := by rw [← hr2]; exact decide_eq_true (sz_ge.2 (num_ge0.2 h2))
  clear hpq h1 h2 h k hr0 hr1 hr2
  have hp_1 := hp.alloc (EQ s A n c B m d)
  have hq_1 := hq.alloc (EQ s A n c B m d)
  have ba_1 : Sq ((w).alloc (EQ s A n c B m d)) (w.heap.size) (.bool s) (.slice A n c) (.slice B m d) := by have h_ := Sq.new (w) (.bool s) (.slice A n c) (.slice B m d); exact h_
  have F1 := (Below.refl w.heap.size w).alloc (Nat.le_refl _) (EQ s A n c B m d)
  have hp_2 := hp_1.alloc (EQ t A' n' c' B' m' d')
  have hq_2 := hq_1.alloc (EQ t A' n' c' B' m' d')
  have ba_2 := ba_1.alloc (EQ t A' n' c' B' m' d')
  have bb_2 : Sq (((w).alloc (EQ s A n c B m d)).alloc (EQ t A' n' c' B' m' d')) (w.heap.size + 1) (.bool t) (.slice A' n' c') (.slice B' m' d') := by have h_ := Sq.new ((w).alloc (EQ s A n c B m d)) (.bool t) (.slice A' n' c') (.slice B' m' d'); simp only [World.size_alloc] at h_; exact h_
  have F2 := F1.alloc F1.size (EQ t A' n' c' B' m' d')
  have hp_3 := hp_2.alloc EQ0
  have hq_3 := hq_2.alloc EQ0
  have ba_3 := ba_2.alloc EQ0
  have bb_3 := bb_2.alloc EQ0
  have br_3 : Sq ((((w).alloc (EQ s A n c B m d)).alloc (EQ t A' n' c' B' m' d')).alloc EQ0) (w.heap.size + 2) (.bool false) (.slice none 0 0) (.slice none 0 0) := by have h_ := Sq.new (((w).alloc (EQ s A n c B m d)).alloc (EQ t A' n' c' B' m' d')) (.bool false) (.slice none 0 0) (.slice none 0 0); simp only [World.size_alloc] at h_; exact h_
  have F3 := F2.alloc F2.size EQ0
  go_enter Try.func49, Try.ntmps49
  go_wp2_with fail
  refine (rcmp_q _ _ _ _ _ _ _ _ _ _ _ _ _ _ _ _ _ _ H0.out hp_3 hq_3 ln lm ln' lm').mono ?_
  rintro e w4 ⟨rfl, b4⟩
  have hp_4 := hp_3.below b4
  have hq_4 := hq_3.below b4
  have ba_4 := ba_3.below b4 ba_3.lt
  have bb_4 := bb_3.below b4 bb_3.lt
  have br_4 := br_3.below b4 br_3.lt
  have F4 := below_then F3 (Nat.le_refl _) b4
  have ba_u4 := ba_4.cell0
  have ba_v4 := ba_4.cell1
  have ba_w4 := ba_4.cell2
  have bb_u4 := bb_4.cell0
  have bb_v4 := bb_4.cell1
  have bb_w4 := bb_4.cell2
  have br_u4 := br_4.cell0
  have br_v4 := br_4.cell1
  have br_w4 := br_4.cell2
  go_wp2_with fail
  refine (rsign_q _ _ _ _ _ _ _ _ _ _ H1.out hp_4 l1).mono ?_
  rintro e w5 ⟨rfl, b5⟩
  have hp_5 := hp_4.below b5
  have hq_5 := hq_4.below b5
  have ba_5 := ba_4.below b5 ba_4.lt
  have bb_5 := bb_4.below b5 bb_4.lt
  have br_5 := br_4.below b5 br_4.lt
  have F5 := below_then F4 (Nat.le_refl _) b5
  have ba_u5 := ba_5.cell0
  have ba_v5 := ba_5.cell1
  have ba_w5 := ba_5.cell2
  have bb_u5 := bb_5.cell0
  have bb_v5 := bb_5.cell1
  have bb_w5 := bb_5.cell2
  have br_u5 := br_5.cell0
  have br_v5 := br_5.cell1
  have br_w5 := br_5.cell2
  go_wp2_with fail
  refine (rsign_q _ _ _ _ _ _ _ _ _ _ H2.out hq_5 l3).mono ?_
  rintro e w6 ⟨rfl, b6⟩
  have hp_6 := hp_5.below b6
  have hq_6 := hq_5.below b6
  have ba_6 := ba_5.below b6 ba_5.lt
  have bb_6 := bb_5.below b6 bb_5.lt
  have br_6 := br_5.below b6 br_5.lt
  have F6 := below_then F5 (Nat.le_refl _) b6
  have ba_u6 := ba_6.cell0
  have ba_v6 := ba_6.cell1
  have ba_w6 := ba_6.cell2
  have bb_u6 := bb_6.cell0
  have bb_v6 := bb_6.cell1
  have bb_w6 := bb_6.cell2
  have br_u6 := br_6.cell0
  have br_v6 := br_6.cell1
  have br_w6 := br_6.cell2
  have br_f06 := br_6.frozen 0
  have br_f16 := br_6.frozen 1
  have br_f26 := br_6.frozen 2
  go_wp2_with fail
  refine bodyPost_ret (v := .tuple #[.agg #[.bool false, .slice none 0 0, .slice none 0 0], .int .i64 0]) (by simp [results, Try.results49, go_sem, (br_6.set0 (.bool false)).cell0, ((br_6.set0 (.bool false)).set1 (.slice none 0 0)).cell1, (((br_6.set0 (.bool false)).set1 (.slice none 0 0)).set2 (.slice none 0 0)).cell2]) rfl (gqe_end 0 F6 (by omega) br_6 (cq_zero _))
set_option maxHeartbeats 1000000 in
theorem smp_pos (s t : Bool) (A B A' B' : Option Addr) (n c m d n' c' m' d' : Nat) (p q : Rat) (w : World) (K : Nat) (hK : K ≤ 1000) (hK1 : 1 ≤ K) (h : Iq w s A n c B m d p) (k : Iq w t A' n' c' B' m' d' q) (hn : n ≤ K) (hm : m ≤ K) (hn' : n' ≤ K) (hm' : m' ≤ K) (hpq : p ≤ q) (h1 : 0 < p) (x : Rat) (hx : spos (p.den + q.den) p q = x) :
    Calls Try.prog 49 #[.agg #[.bool s, .slice A n c, .slice B m d], .agg #[.bool t, .slice A' n' c', .slice B' m' d']] w (GQE w x 0) := by
  have hs : Qs K p := h.size hn hm hK1
  have ht : Qs K q := k.size hn' hm' hK1
  have ln : n ≤ 4000 := by omega
  have lm : m ≤ 4000 := by omega
  have ln' : n' ≤ 4000 := by omega
  have lm' : m' ≤ 4000 := by omega
  have l1 : n ≤ 16384 := by omega
  have l2 : m ≤ 16384 := by omega
  have l3 : n' ≤ 16384 := by omega
  have l4 : m' ≤ 16384 := by omega
  have k16 : K ≤ 16384 := by omega
  obtain ⟨r0, hr0⟩ : ∃ r, sz (p - q).num = r := ⟨_, rfl⟩
  obtain ⟨r1, hr1⟩ : ∃ r, sz p.num = r := ⟨_, rfl⟩
  obtain ⟨r2, hr2⟩ : ∃ r, sz q.num = r := ⟨_, rfl⟩
  have H0 := hide hr0
  have H1 := hide hr1
  have H2 := hide hr2
  have hp := h
  have hq := k
  have d0 : decide (0 < r0) = false := by rw [← hr0]; exact decide_eq_false (by have := cmp_le.2 hpq; omega)
  have hq0 : 0 < q := lt_le h1 hpq
  have d1 : decide (r1 ≤ 0) = false := by rw [← hr1]; exact decide_eq_false (by rw [sz_le, num_le0]; exact Rat.not_le.2 h1)
  have d2 : decide (r2 < 0) = false := by rw [← hr2]; exact decide_eq_false (by rw [sz_lt, num_lt0]; exact Rat.not_lt.2 (Rat.le_of_lt hq0))
  have HP := hide (show ∀ (w : World), Iq w s A n c B m d p → Iq w t A' n' c' B' m' d' q → Calls Try.prog 74 #[.agg #[.bool s, .slice A n c, .slice B m d], .agg #[.bool t, .slice A' n' c', .slice B' m' d']] w (GQ w x) from fun w a b => by
    rw [← hx]
    exact rpos_q _ s t A B A' B' n c m d n' c' m' d' p q w K hK hK1 h1 hpq (Nat.le_refl _) hs ht a b hn hm hn' hm')
  clear hpq h1 h k hr0 hr1 hr2 hq0 hx
  have hp_1 := hp.alloc (EQ s A n c B m d)
  have hq_1 := hq.alloc (EQ s A n c B m d)
  have ba_1 : Sq ((w).alloc (EQ s A n c B m d)) (w.heap.size) (.bool s) (.slice A n c) (.slice B m d) := by have h_ := Sq.new (w) (.bool s) (.slice A n c) (.slice B m d); exact h_
  have F1 := (Below.refl w.heap.size w).alloc (Nat.le_refl _) (EQ s A n c B m d)
  have hp_2 := hp_1.alloc (EQ t A' n' c' B' m' d')
  have hq_2 := hq_1.alloc (EQ t A' n' c' B' m' d')
  have ba_2 := ba_1.alloc (EQ t A' n' c' B' m' d')
  have bb_2 : Sq (((w).alloc (EQ s A n c B m d)).alloc (EQ t A' n' c' B' m' d')) (w.heap.size + 1) (.bool t) (.slice A' n' c') (.slice B' m' d') := by have h_ := Sq.new ((w).alloc (EQ s A n c B m d)) (.bool t) (.slice A' n' c') (.slice B' m' d'); simp only [World.size_alloc] at h_; exact h_
  have F2 := F1.alloc F1.size (EQ t A' n' c' B' m' d')
  have hp_3 := hp_2.alloc EQ0
  have hq_3 := hq_2.alloc EQ0
  have ba_3 := ba_2.alloc EQ0
  have bb_3 := bb_2.alloc EQ0
  have br_3 : Sq ((((w).alloc (EQ s A n c B m d)).alloc (EQ t A' n' c' B' m' d')).alloc EQ0) (w.heap.size + 2) (.bool false) (.slice none 0 0) (.slice none 0 0) := by have h_ := Sq.new (((w).alloc (EQ s A n c B m d)).alloc (EQ t A' n' c' B' m' d')) (.bool false) (.slice none 0 0) (.slice none 0 0); simp only [World.size_alloc] at h_; exact h_
  have F3 := F2.alloc F2.size EQ0
  go_enter Try.func49, Try.ntmps49
  go_wp2_with fail
  refine (rcmp_q _ _ _ _ _ _ _ _ _ _ _ _ _ _ _ _ _ _ H0.out hp_3 hq_3 ln lm ln' lm').mono ?_
  rintro e w4 ⟨rfl, b4⟩
  have hp_4 := hp_3.below b4
  have hq_4 := hq_3.below b4
  have ba_4 := ba_3.below b4 ba_3.lt
  have bb_4 := bb_3.below b4 bb_3.lt
  have br_4 := br_3.below b4 br_3.lt
  have F4 := below_then F3 (Nat.le_refl _) b4
  have ba_u4 := ba_4.cell0
  have ba_v4 := ba_4.cell1
  have ba_w4 := ba_4.cell2
  have bb_u4 := bb_4.cell0
  have bb_v4 := bb_4.cell1
  have bb_w4 := bb_4.cell2
  have br_u4 := br_4.cell0
  have br_v4 := br_4.cell1
  have br_w4 := br_4.cell2
  go_wp2_with fail
  refine (rsign_q _ _ _ _ _ _ _ _ _ _ H1.out hp_4 l1).mono ?_
  rintro e w5 ⟨rfl, b5⟩
  have hp_5 := hp_4.below b5
  have hq_5 := hq_4.below b5
  have ba_5 := ba_4.below b5 ba_4.lt
  have bb_5 := bb_4.below b5 bb_4.lt
  have br_5 := br_4.below b5 br_4.lt
  have F5 := below_then F4 (Nat.le_refl _) b5
  have ba_u5 := ba_5.cell0
  have ba_v5 := ba_5.cell1
  have ba_w5 := ba_5.cell2
  have bb_u5 := bb_5.cell0
  have bb_v5 := bb_5.cell1
  have bb_w5 := bb_5.cell2
  have br_u5 := br_5.cell0
  have br_v5 := br_5.cell1
  have br_w5 := br_5.cell2
  go_wp2_with fail
  refine (rsign_q _ _ _ _ _ _ _ _ _ _ H2.out hq_5 l3).mono ?_
  rintro e w6 ⟨rfl, b6⟩
  have hp_6 := hp_5.below b6
  have hq_6 := hq_5.below b6
  have ba_6 := ba_5.below b6 ba_5.lt
  have bb_6 := bb_5.below b6 bb_5.lt
  have br_6 := br_5.below b6 br_5.lt
  have F6 := below_then F5 (Nat.le_refl _) b6
  have ba_u6 := ba_6.cell0
  have ba_v6 := ba_6.cell1
  have ba_w6 := ba_6.cell2
  have bb_u6 := bb_6.cell0
  have bb_v6 := bb_6.cell1
  have bb_w6 := bb_6.cell2
  have br_u6 := br_6.cell0
  have br_v6 := br_6.cell1
  have br_w6 := br_6.cell2
  go_wp2_with fail
  refine (HP.out _ hp_6 hq_6).mono ?_
  rintro e w7 ⟨s7, A7, n7, c7, B7, m7, d7, rfl, xx, b7⟩
  have hp_7 := hp_6.below b7
  have hq_7 := hq_6.below b7
  have ba_7 := ba_6.below b7 ba_6.lt
  have bb_7 := bb_6.below b7 bb_6.lt
  have br_7 := br_6.below b7 br_6.lt
  have F7 := below_then F6 (Nat.le_refl _) b7
  have ba_u7 := ba_7.cell0
  have ba_v7 := ba_7.cell1
  have ba_w7 := ba_7.cell2
  have bb_u7 := bb_7.cell0
  have bb_v7 := bb_7.cell1
  have bb_w7 := bb_7.cell2
  have br_u7 := br_7.cell0
  have br_v7 := br_7.cell1
  have br_w7 := br_7.cell2
  have br_f07 := br_7.frozen 0
  have br_f17 := br_7.frozen 1
  have br_f27 := br_7.frozen 2
  go_wp2_with fail
  refine bodyPost_ret (v := .tuple #[.agg #[.bool s7, .slice A7 n7 c7, .slice B7 m7 d7], .int .i64 0]) (by simp [results, Try.results49, go_sem, (br_7.set0 (.bool s7)).cell0, ((br_7.set0 (.bool s7)).set1 (.slice A7 n7 c7)).cell1, (((br_7.set0 (.bool s7)).set1 (.slice A7 n7 c7)).set2 (.slice B7 m7 d7)).cell2]) rfl (gqe_end 0 F7 (by omega) br_7 xx)
set_option maxHeartbeats 1000000 in
theorem smp_neg (s t : Bool) (A B A' B' : Option Addr) (n c m d n' c' m' d' : Nat) (p q : Rat) (w : World) (K : Nat) (hK : K ≤ 1000) (hK1 : 1 ≤ K) (h : Iq w s A n c B m d p) (k : Iq w t A' n' c' B' m' d' q) (hn : n ≤ K) (hm : m ≤ K) (hn' : n' ≤ K) (hm' : m' ≤ K) (hpq : p ≤ q) (h1 : q < 0) (x : Rat) (hx : spos (q.den + p.den) (-q) (-p) = x) :
    Calls Try.prog 49 #[.agg #[.bool s, .slice A n c, .slice B m d], .agg #[.bool t, .slice A' n' c', .slice B' m' d']] w (GQE w (-x) 0) := by
  have hs : Qs K p := h.size hn hm hK1
  have ht : Qs K q := k.size hn' hm' hK1
  have ln : n ≤ 4000 := by omega
  have lm : m ≤ 4000 := by omega
  have ln' : n' ≤ 4000 := by omega
  have lm' : m' ≤ 4000 := by omega
  have l1 : n ≤ 16384 := by omega
  have l2 : m ≤ 16384 := by omega
  have l3 : n' ≤ 16384 := by omega
  have l4 : m' ≤ 16384 := by omega
  have k16 : K ≤ 16384 := by omega
  obtain ⟨r0, hr0⟩ : ∃ r, sz (p - q).num = r := ⟨_, rfl⟩
  obtain ⟨r1, hr1⟩ : ∃ r, sz p.num = r := ⟨_, rfl⟩
  obtain ⟨r2, hr2⟩ : ∃ r, sz q.num = r := ⟨_, rfl⟩
  have H0 := hide hr0
  have H1 := hide hr1
  have H2 := hide hr2
  have hp := h
  have hq := k
  have d0 : decide (0 < r0) = false := by rw [← hr0]; exact decide_eq_false (by have := cmp_le.2 hpq; omega)
  have hp0 : p < 0 := le_lt hpq h1
  have d1 : decide (r1 ≤ 0) = true := by rw [← hr1]; exact decide_eq_true (by rw [sz_le, num_le0]; exact Rat.le_of_lt hp0)
  have d2 : decide (0 ≤ r2) = false := by rw [← hr2]; exact decide_eq_false (by rw [sz_ge, num_ge0]; exact Rat.not_le.2 h1)
  have d3 : decide (r2 < 0) = true := by rw [← hr2]; exact decide_eq_true (by rw [sz_lt, num_lt0]; exact h1)
  have sq : Qs K (-q) := size_neg ht
  have sp : Qs K (-p) := size_neg hs
  have h0 : 0 < -q := by grind
  have hqp : -q ≤ -p := by grind
  have hX : Qs K x := by
    rw [← hx]
    exact (simp_size h0 (spos_simp _ _ _ h0 hqp (by simp)) sq hqp).2
  have HP := hide (show ∀ (s t : Bool) (A B A' B' : Option Addr) (n c m d n' c' m' d' : Nat) (w : World), Iq w s A n c B m d (-q) → Iq w t A' n' c' B' m' d' (-p) → n ≤ K → m ≤ K → n' ≤ K → m' ≤ K → Calls Try.prog 74 #[.agg #[.bool s, .slice A n c, .slice B m d], .agg #[.bool t, .slice A' n' c', .slice B' m' d']] w (GQ w x) from fun s t A B A' B' n c m d n' c' m' d' w a b hn hm hn' hm' => by
    rw [← hx]
    exact rpos_q _ s t A B A' B' n c m d n' c' m' d' (-q) (-p) w K hK hK1 h0 hqp (by simp) sq sp a b hn hm hn' hm')
  clear hpq h1 h k hr0 hr1 hr2 hp0 hx h0 hqp
  have hp_1 := hp.alloc (EQ s A n c B m d)
  have hq_1 := hq.alloc (EQ s A n c B m d)
  have ba_1 : Sq ((w).alloc (EQ s A n c B m d)) (w.heap.size) (.bool s) (.slice A n c) (.slice B m d) := by have h_ := Sq.new (w) (.bool s) (.slice A n c) (.slice B m d); exact h_
  have F1 := (Below.refl w.heap.size w).alloc (Nat.le_refl _) (EQ s A n c B m d)
  have hp_2 := hp_1.alloc (EQ t A' n' c' B' m' d')
  have hq_2 := hq_1.alloc (EQ t A' n' c' B' m' d')
  have ba_2 := ba_1.alloc (EQ t A' n' c' B' m' d')
  have bb_2 : Sq (((w).alloc (EQ s A n c B m d)).alloc (EQ t A' n' c' B' m' d')) (w.heap.size + 1) (.bool t) (.slice A' n' c') (.slice B' m' d') := by have h_ := Sq.new ((w).alloc (EQ s A n c B m d)) (.bool t) (.slice A' n' c') (.slice B' m' d'); simp only [World.size_alloc] at h_; exact h_
  have F2 := F1.alloc F1.size (EQ t A' n' c' B' m' d')
  have hp_3 := hp_2.alloc EQ0
  have hq_3 := hq_2.alloc EQ0
  have ba_3 := ba_2.alloc EQ0
  have bb_3 := bb_2.alloc EQ0
  have br_3 : Sq ((((w).alloc (EQ s A n c B m d)).alloc (EQ t A' n' c' B' m' d')).alloc EQ0) (w.heap.size + 2) (.bool false) (.slice none 0 0) (.slice none 0 0) := by have h_ := Sq.new (((w).alloc (EQ s A n c B m d)).alloc (EQ t A' n' c' B' m' d')) (.bool false) (.slice none 0 0) (.slice none 0 0); simp only [World.size_alloc] at h_; exact h_
  have F3 := F2.alloc F2.size EQ0
  go_enter Try.func49, Try.ntmps49
  go_wp2_with fail
  refine (rcmp_q _ _ _ _ _ _ _ _ _ _ _ _ _ _ _ _ _ _ H0.out hp_3 hq_3 ln lm ln' lm').mono ?_
  rintro e w4 ⟨rfl, b4⟩
  have hp_4 := hp_3.below b4
  have hq_4 := hq_3.below b4
  have ba_4 := ba_3.below b4 ba_3.lt
  have bb_4 := bb_3.below b4 bb_3.lt
  have br_4 := br_3.below b4 br_3.lt
  have F4 := below_then F3 (Nat.le_refl _) b4
  have ba_u4 := ba_4.cell0
  have ba_v4 := ba_4.cell1
  have ba_w4 := ba_4.cell2
  have bb_u4 := bb_4.cell0
  have bb_v4 := bb_4.cell1
  have bb_w4 := bb_4.cell2
  have br_u4 := br_4.cell0
  have br_v4 := br_4.cell1
  have br_w4 := br_4.cell2
  go_wp2_with fail
  refine (rsign_q _ _ _ _ _ _ _ _ _ _ H1.out hp_4 l1).mono ?_
  rintro e w5 ⟨rfl, b5⟩
  have hp_5 := hp_4.below b5
  have hq_5 := hq_4.below b5
  have ba_5 := ba_4.below b5 ba_4.lt
  have bb_5 := bb_4.below b5 bb_4.lt
  have br_5 := br_4.below b5 br_4.lt
  have F5 := below_then F4 (Nat.le_refl _) b5
  have ba_u5 := ba_5.cell0
  have ba_v5 := ba_5.cell1
  have ba_w5 := ba_5.cell2
  have bb_u5 := bb_5.cell0
  have bb_v5 := bb_5.cell1
  have bb_w5 := bb_5.cell2
  have br_u5 := br_5.cell0
  have br_v5 := br_5.cell1
  have br_w5 := br_5.cell2
  go_wp2_with fail
  refine (rsign_q _ _ _ _ _ _ _ _ _ _ H2.out hq_5 l3).mono ?_
  rintro e w6 ⟨rfl, b6⟩
  have hp_6 := hp_5.below b6
  have hq_6 := hq_5.below b6
  have ba_6 := ba_5.below b6 ba_5.lt
  have bb_6 := bb_5.below b6 bb_5.lt
  have br_6 := br_5.below b6 br_5.lt
  have F6 := below_then F5 (Nat.le_refl _) b6
  have ba_u6 := ba_6.cell0
  have ba_v6 := ba_6.cell1
  have ba_w6 := ba_6.cell2
  have bb_u6 := bb_6.cell0
  have bb_v6 := bb_6.cell1
  have bb_w6 := bb_6.cell2
  have br_u6 := br_6.cell0
  have br_v6 := br_6.cell1
  have br_w6 := br_6.cell2
  go_wp2_with fail
  refine (rsign_q _ _ _ _ _ _ _ _ _ _ H2.out hq_6 l3).mono ?_
  rintro e w7 ⟨rfl, b7⟩
  have hp_7 := hp_6.below b7
  have hq_7 := hq_6.below b7
  have ba_7 := ba_6.below b7 ba_6.lt
  have bb_7 := bb_6.below b7 bb_6.lt
  have br_7 := br_6.below b7 br_6.lt
  have F7 := below_then F6 (Nat.le_refl _) b7
  have ba_u7 := ba_7.cell0
  have ba_v7 := ba_7.cell1
  have ba_w7 := ba_7.cell2
  have bb_u7 := bb_7.cell0
  have bb_v7 := bb_7.cell1
  have bb_w7 := bb_7.cell2
  have br_u7 := br_7.cell0
  have br_v7 := br_7.cell1
  have br_w7 := br_7.cell2
  go_wp2_with fail
  have hp_8 := hp_7.drew
  have hq_8 := hq_7.drew
  have ba_8 := ba_7.drew
  have bb_8 := bb_7.drew
  have br_8 := br_7.drew
  have F8 := F7.drew
  go_region_held3 (fun w' => w'.cell? ⟨w.heap.size, 0, none⟩ = some (.bool s) ∧ w'.cell? ⟨w.heap.size, 1, none⟩ = some (.slice A n c) ∧ w'.cell? ⟨w.heap.size, 2, none⟩ = some (.slice B m d) ∧ w'.cell? ⟨w.heap.size + 1, 0, none⟩ = some (.bool t) ∧ w'.cell? ⟨w.heap.size + 1, 1, none⟩ = some (.slice A' n' c') ∧ w'.cell? ⟨w.heap.size + 1, 2, none⟩ = some (.slice B' m' d'))
    (first
      | with_reducible exact ⟨ba_p.cell0, ba_p.cell1, ba_p.cell2, bb_p.cell0, bb_p.cell1, bb_p.cell2⟩
      | with_reducible exact ⟨ba_12.cell0, ba_12.cell1, ba_12.cell2, bb_12.cell0, bb_12.cell1, bb_12.cell2⟩
      | with_reducible exact ⟨ba_11.cell0, ba_11.cell1, ba_11.cell2, bb_11.cell0, bb_11.cell1, bb_11.cell2⟩
      | with_reducible exact ⟨ba_10.cell0, ba_10.cell1, ba_10.cell2, bb_10.cell0, bb_10.cell1, bb_10.cell2⟩
      | with_reducible exact ⟨ba_9.cell0, ba_9.cell1, ba_9.cell2, bb_9.cell0, bb_9.cell1, bb_9.cell2⟩
      | with_reducible exact ⟨ba_8.cell0, ba_8.cell1, ba_8.cell2, bb_8.cell0, bb_8.cell1, bb_8.cell2⟩
      | fail)
    (first
      | (go_at_call 53; (with_reducible refine (rneg_q _ _ _ _ _ _ _ _ _ hq_8 l3 l4).mono ?_); rintro e w9 ⟨s9, A9, n9, c9, B9, m9, d9, rfl, a, b9⟩; have hp_9 := hp_8.below b9; have hq_9 := hq_8.below b9; have ba_9 := ba_8.below b9 ba_8.lt; have bb_9 := bb_8.below b9 bb_8.lt; have br_9 := br_8.below b9 br_8.lt; have F9 := below_then F8 (Nat.le_refl _) b9; have la := a.tiny sq)
      | (go_at_call 53; (with_reducible refine (rneg_q _ _ _ _ _ _ _ _ _ hp_9 l1 l2).mono ?_); rintro e w10 ⟨s10, A10, n10, c10, B10, m10, d10, rfl, b, b10⟩; have hp_10 := hp_9.below b10; have hq_10 := hq_9.below b10; have a_10 := a.below b10; have ba_10 := ba_9.below b10 ba_9.lt; have bb_10 := bb_9.below b10 bb_9.lt; have br_10 := br_9.below b10 br_9.lt; have F10 := below_then F9 (Nat.le_refl _) b10; have lb := b.tiny sp)
      | (go_at_call 74; (with_reducible refine (HP.out _ _ _ _ _ _ _ _ _ _ _ _ _ _ _ a_10.iq b.iq la.1 la.2 lb.1 lb.2).mono ?_); rintro e w11 ⟨s11, A11, n11, c11, B11, m11, d11, rfl, xx, b11⟩; have hp_11 := hp_10.below b11; have hq_11 := hq_10.below b11; have a_11 := a_10.below b11; have b_11 := b.below b11; have ba_11 := ba_10.below b11 ba_10.lt; have bb_11 := bb_10.below b11 bb_10.lt; have br_11 := br_10.below b11 br_10.lt; have F11 := below_then F10 (Nat.le_refl _) b11; have lx := xx.tiny hX; have lx1 := Nat.le_trans lx.1 k16; have lx2 := Nat.le_trans lx.2 k16)
      | (go_at_call 53; (with_reducible refine (rneg_q _ _ _ _ _ _ _ _ _ xx.iq lx1 lx2).mono ?_); rintro e w12 ⟨s12, A12, n12, c12, B12, m12, d12, rfl, z, b12⟩; have hp_12 := hp_11.below b12; have hq_12 := hq_11.below b12; have a_12 := a_11.below b12; have b_12 := b_11.below b12; have xx_12 := xx.below b12; have ba_12 := ba_11.below b12 ba_11.lt; have bb_12 := bb_11.below b12 bb_11.lt; have br_12 := br_11.below b12 br_11.lt; have F12 := below_then F11 (Nat.le_refl _) b12; have br_g0 := br_12.cell0; have br_h0 := br_12.frozen 0; have br_g1 := br_12.cell1; have br_h1 := br_12.frozen 1; have br_g2 := br_12.cell2; have br_h2 := br_12.frozen 2; have ba_p := ba_12.past (g' := w.heap.size + 2) (u0 := .bool s12) (u1 := .slice A12 n12 c12) (u2 := .slice B12 m12 d12) (by omega); have bb_p := bb_12.past (g' := w.heap.size + 2) (u0 := .bool s12) (u1 := .slice A12 n12 c12) (u2 := .slice B12 m12 d12) (by omega))
      | fail)
  go_wp2_with fail
  refine bodyPost_ret (v := .tuple #[.agg #[.bool s12, .slice A12 n12 c12, .slice B12 m12 d12], .int .i64 0]) (by simp [results, Try.results49, go_sem, (br_12.set0 (.bool s12)).cell0, ((br_12.set0 (.bool s12)).set1 (.slice A12 n12 c12)).cell1, (((br_12.set0 (.bool s12)).set1 (.slice A12 n12 c12)).set2 (.slice B12 m12 d12)).cell2]) rfl (gqe_end 0 F12 (by omega) br_12 z)
theorem rsimplest_q (s t : Bool) (A B A' B' : Option Addr) (n c m d n' c' m' d' : Nat) (p q : Rat) (w : World) (K : Nat) (hK : K ≤ 1000) (hK1 : 1 ≤ K) (h : Iq w s A n c B m d p) (k : Iq w t A' n' c' B' m' d' q) (hn : n ≤ K) (hm : m ≤ K) (hn' : n' ≤ K) (hm' : m' ≤ K) (hpq : p ≤ q) :
    Calls Try.prog 49 #[.agg #[.bool s, .slice A n c, .slice B m d], .agg #[.bool t, .slice A' n' c', .slice B' m' d']] w (GQE w (smp p q) 0) := by
  unfold smp
  by_cases h1 : p ≤ 0 ∧ 0 ≤ q
  · rw [if_pos h1]
    exact smp_zero s t A B A' B' n c m d n' c' m' d' p q w K hK hK1 h k hn hm hn' hm' hpq h1.1 h1.2
  · rw [if_neg h1]
    by_cases h2 : q < 0
    · rw [if_pos h2]
      exact smp_neg s t A B A' B' n c m d n' c' m' d' p q w K hK hK1 h k hn hm hn' hm' hpq h2 _ rfl
    · rw [if_neg h2]
      have h3 : 0 < p := Rat.not_le.1 fun e => h1 ⟨e, Rat.not_lt.1 h2⟩
      exact smp_pos s t A B A' B' n c m d n' c' m' d' p q w K hK hK1 h k hn hm hn' hm' hpq h3 _ rfl
/-- The simplest number: between the two, and no number between them has a lesser denominator or a lesser absolute numerator. -/
theorem smp_simple (lo hi : Rat) (hle : lo ≤ hi) : lo ≤ smp lo hi ∧ smp lo hi ≤ hi ∧ ∀ s, lo ≤ s → s ≤ hi → (smp lo hi).den ≤ s.den ∧ (smp lo hi).num.natAbs ≤ s.num.natAbs := by
  unfold smp
  by_cases h1 : lo ≤ 0 ∧ 0 ≤ hi
  · rw [if_pos h1]
    refine ⟨h1.1, h1.2, fun s _ _ => ⟨?_, by simp⟩⟩
    have := s.den_nz
    simp
    omega
  · rw [if_neg h1]
    by_cases h2 : hi < 0
    · rw [if_pos h2]
      have h0 : 0 < -hi := by grind
      have hqp : -hi ≤ -lo := by grind
      obtain ⟨s1, s2, s3⟩ := spos_simp (hi.den + lo.den) (-hi) (-lo) h0 hqp (by simp)
      have hx := lt_le h0 s1
      generalize spos (hi.den + lo.den) (-hi) (-lo) = x at s1 s2 s3 hx
      refine ⟨by grind, by grind, fun s a b => ?_⟩
      have h4 := s3 (-s) (by grind) (by grind)
      have n1 := num_pos hx
      have n2 := num_pos (q := -s) (lt_le h0 (by grind))
      rw [Rat.neg_num, Rat.neg_den] at *
      omega
    · rw [if_neg h2]
      have h3 : 0 < lo := Rat.not_le.1 fun e => h1 ⟨e, Rat.not_lt.1 h2⟩
      obtain ⟨s1, s2, s3⟩ := spos_simp (lo.den + hi.den) lo hi h3 hle (Nat.le_refl _)
      have hx := lt_le h3 s1
      refine ⟨s1, s2, fun s a b => ?_⟩
      have h4 := s3 s a b
      have n1 := num_pos hx
      have n2 := num_pos (lt_le h3 a)
      omega
end Go.Proofs.Ytabgniijlofapaa
