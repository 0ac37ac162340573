/-
  The program's Add, Sub, Min, Max.
-/
import Derived.Test.YtnddhohjfjlaiaaQ3
import Derived.Deep.DeepCutAuto
import Derived.Deep.CutBlock
namespace Go.Proofs.Ytnddhohjfjlaiaa
open Go.RowKit
set_option linter.unusedVariables false
set_option linter.unusedSimpArgs false

theorem Iq.storQ9 {w : World} {g : Nat} {s0 : Bool} {A0 B0 : Option Addr} {n0 c0 m0 d0 : Nat} {s : Bool} {A B : Option Addr} {n c m d : Nat} {q : Rat} (h : Iq w s A n c B m d q) (hs : Sq w g (.bool s0) (.slice A0 n0 c0) (.slice B0 m0 d0)) (u0 u1 u2 : Value) :
    Iq (((w.setCell ⟨g, 0, none⟩ u0).setCell ⟨g, 1, none⟩ u1).setCell ⟨g, 2, none⟩ u2) s A n c B m d q := by
  obtain ⟨xs, ys, h1, h2, h3⟩ := h
  exact ⟨xs, ys, h1.storQ hs _ _ _, h2.storQ hs _ _ _, h3⟩
theorem Nz.storI {w : World} {A : Option Addr} {n c k X : Nat} (h : Nz w A n c k X) {g : Nat} {s0 : Bool} {B : Option Addr} {l d : Nat} (hs : Sb w g (.bool s0) (.slice B l d)) (u0 u1 : Value) : Nz ((w.setCell ⟨g, 0, none⟩ u0).setCell ⟨g, 1, none⟩ u1) A n c k X := ⟨h.1, h.2.elim fun xs hx => ⟨xs, hx.1.storI hs u0 u1, hx.2⟩⟩
theorem Cz.storI {w : World} {s : Bool} {A : Option Addr} {n c : Nat} {z : Int} (h : Cz w s A n c z) {g : Nat} {s0 : Bool} {B : Option Addr} {l d : Nat} (hs : Sb w g (.bool s0) (.slice B l d)) (u0 u1 : Value) : Cz ((w.setCell ⟨g, 0, none⟩ u0).setCell ⟨g, 1, none⟩ u1) s A n c z := ⟨h.1.storI hs u0 u1, h.2⟩
set_option maxHeartbeats 1000000 in
set_option maxRecDepth 20000 in
theorem add_q (s t : Bool) (A B A' B' : Option Addr) (n c m d n' c' m' d' : Nat) (p q r : Rat) (w : World) (hr : p + q = r) (h : Iq w s A n c B m d p) (k : Iq w t A' n' c' B' m' d' q) (hn : n ≤ 4000) (hm : m ≤ 4000) (hn' : n' ≤ 4000) (hm' : m' ≤ 4000) :
    Calls Try.prog 48 #[.agg #[.bool s, .slice A n c, .slice B m d], .agg #[.bool t, .slice A' n' c', .slice B' m' d']] w (GQ w r) := by
  obtain ⟨xs, ys, hx0, hy, ep⟩ := h
  obtain ⟨xs', ys', kx0, ky, eq⟩ := k
  have hx := hx0.nz hn
  have kx := kx0.nz hn'
  obtain ⟨X, hX⟩ : ∃ X, val xs = X := ⟨_, rfl⟩
  obtain ⟨X', hX'⟩ : ∃ X, val xs' = X := ⟨_, rfl⟩
  obtain ⟨D, hD⟩ : ∃ D, rden ys = D := ⟨_, rfl⟩
  obtain ⟨D', hD'⟩ : ∃ D, rden ys' = D := ⟨_, rfl⟩
  rw [hX] at hx
  rw [hX'] at kx
  have HD := hide hD
  have HD' := hide hD'
  have o1 : 1 ≤ 4000 := by omega
  have o2 : 4000 ≤ 1048576 := by omega
  have o3 : 4000 + 4000 ≤ 8000 := by omega
  have o4 : 8000 ≤ 1048576 := by omega
  have o5 : 8000 ≤ 65536 := by omega
  obtain ⟨z, hz⟩ : ∃ z, iv s (dg (X * D')) + iv t (dg (X' * D)) = z := ⟨_, rfl⟩
  have hzv : z = iv s xs * (D' : Int) + iv t xs' * (D : Int) := by rw [← hz, iv_times s X D' xs hX, iv_times t X' D xs' hX']
  have hzl : z.natAbs < pw 8001 := by
    have a1 : (iv s (dg (X * D'))).natAbs = X * D' := by rw [iv_abs, val_dg]
    have a2 : (iv t (dg (X' * D))).natAbs = X' * D := by rw [iv_abs, val_dg]
    have m1 := mul_pw hx.lt (show D' < pw 4000 by rw [← hD']; exact rden_lt ky hm' (by omega))
    have m2 := mul_pw kx.lt (show D < pw 4000 by rw [← hD]; exact rden_lt hy hm (by omega))
    have hsum : z.natAbs ≤ X * D' + X' * D := by rw [← hz]; exact Nat.le_trans (Int.natAbs_add_le _ _) (by rw [a1, a2]; exact Nat.le_refl _)
    exact Nat.lt_of_le_of_lt hsum (add_pw m1 m2)
  have HQ := hide (show mkRat z (D * D') = r by rw [hzv, ← hD, ← hD', add_value, ep, eq, hr])
  have H0 : D * D' ≠ 0 := by rw [← hD, ← hD']; exact Nat.mul_ne_zero (rden_pos _) (rden_pos _)
  have HZ := hide hz
  have HZL := hide hzl
  have o6 : 8001 ≤ 65536 := by omega
  clear ep eq hD hD' hX hX' hx0 kx0 hr
  clear hz hzv hzl
  have hx_1 := hx.alloc (EQ s A n c B m d)
  have hy_1 := hy.alloc (EQ s A n c B m d)
  have kx_1 := kx.alloc (EQ s A n c B m d)
  have ky_1 := ky.alloc (EQ s A n c B m d)
  have ba_1 : Sq ((w).alloc (EQ s A n c B m d)) (w.heap.size) (.bool s) (.slice A n c) (.slice B m d) := by have h_ := Sq.new (w) (.bool s) (.slice A n c) (.slice B m d); exact h_
  have F1 := (Below.refl w.heap.size w).alloc (Nat.le_refl _) (EQ s A n c B m d)
  have hx_2 := hx_1.alloc (EQ t A' n' c' B' m' d')
  have hy_2 := hy_1.alloc (EQ t A' n' c' B' m' d')
  have kx_2 := kx_1.alloc (EQ t A' n' c' B' m' d')
  have ky_2 := ky_1.alloc (EQ t A' n' c' B' m' d')
  have ba_2 := ba_1.alloc (EQ t A' n' c' B' m' d')
  have bb_2 : Sq (((w).alloc (EQ s A n c B m d)).alloc (EQ t A' n' c' B' m' d')) (w.heap.size + 1) (.bool t) (.slice A' n' c') (.slice B' m' d') := by have h_ := Sq.new ((w).alloc (EQ s A n c B m d)) (.bool t) (.slice A' n' c') (.slice B' m' d'); simp only [World.size_alloc] at h_; exact h_
  have F2 := F1.alloc F1.size (EQ t A' n' c' B' m' d')
  have hx_3 := hx_2.alloc EQ0
  have hy_3 := hy_2.alloc EQ0
  have kx_3 := kx_2.alloc EQ0
  have ky_3 := ky_2.alloc EQ0
  have ba_3 := ba_2.alloc EQ0
  have bb_3 := bb_2.alloc EQ0
  have br_3 : Sq ((((w).alloc (EQ s A n c B m d)).alloc (EQ t A' n' c' B' m' d')).alloc EQ0) (w.heap.size + 2) (.bool false) (.slice none 0 0) (.slice none 0 0) := by have h_ := Sq.new (((w).alloc (EQ s A n c B m d)).alloc (EQ t A' n' c' B' m' d')) (.bool false) (.slice none 0 0) (.slice none 0 0); simp only [World.size_alloc] at h_; exact h_
  have F3 := F2.alloc F2.size EQ0
  go_enter Try.func48, Try.ntmps48
  go_wp2_with fail
  have hx_4 := hx_3.drew
  have hy_4 := hy_3.drew
  have kx_4 := kx_3.drew
  have ky_4 := ky_3.drew
  have ba_4 := ba_3.drew
  have bb_4 := bb_3.drew
  have br_4 := br_3.drew
  have F4 := F3.drew
  go_region_held3 (fun w' => w'.cell? ⟨w.heap.size, 0, none⟩ = some (.bool s) ∧ w'.cell? ⟨w.heap.size, 1, none⟩ = some (.slice A n c) ∧ w'.cell? ⟨w.heap.size, 2, none⟩ = some (.slice B m d) ∧ w'.cell? ⟨w.heap.size + 1, 0, none⟩ = some (.bool t) ∧ w'.cell? ⟨w.heap.size + 1, 1, none⟩ = some (.slice A' n' c') ∧ w'.cell? ⟨w.heap.size + 1, 2, none⟩ = some (.slice B' m' d'))
    (first
      | with_reducible exact ⟨ba_6.cell0, ba_6.cell1, ba_6.cell2, bb_6.cell0, bb_6.cell1, bb_6.cell2⟩
      | with_reducible exact ⟨ba_5.cell0, ba_5.cell1, ba_5.cell2, bb_5.cell0, bb_5.cell1, bb_5.cell2⟩
      | with_reducible exact ⟨ba_4.cell0, ba_4.cell1, ba_4.cell2, bb_4.cell0, bb_4.cell1, bb_4.cell2⟩
      | fail)
    (first
      | (go_at_call 65; (with_reducible refine (divisor_n _ _ _ _ _ _ _ ys 4000 D _ HD.out hy_4 hm o1 o2).mono ?_); rintro e w5 ⟨A5, n5, c5, rfl, a, b5⟩; have hx_5 := hx_4.below b5; have hy_5 := hy_4.below b5; have kx_5 := kx_4.below b5; have ky_5 := ky_4.below b5; have ba_5 := ba_4.below b5 ba_4.lt; have bb_5 := bb_4.below b5 bb_4.lt; have br_5 := br_4.below b5 br_4.lt; have F5 := below_then F4 (Nat.le_refl _) b5)
      | (go_at_call 65; (with_reducible refine (divisor_n _ _ _ _ _ _ _ ys' 4000 D' _ HD'.out ky_5 hm' o1 o2).mono ?_); rintro e w6 ⟨A6, n6, c6, rfl, b, b6⟩; have hx_6 := hx_5.below b6; have hy_6 := hy_5.below b6; have kx_6 := kx_5.below b6; have ky_6 := ky_5.below b6; have a_6 := a.below b6; have ba_6 := ba_5.below b6 ba_5.lt; have bb_6 := bb_5.below b6 bb_5.lt; have br_6 := br_5.below b6 br_5.lt; have F6 := below_then F5 (Nat.le_refl _) b6)
      | fail)
  have ba_u6 := ba_6.cell0
  have ba_v6 := ba_6.cell1
  have ba_w6 := ba_6.cell2
  have bb_u6 := bb_6.cell0
  have bb_v6 := bb_6.cell1
  have bb_w6 := bb_6.cell2
  have br_u6 := br_6.cell0
  have br_v6 := br_6.cell1
  have br_w6 := br_6.cell2
  go_upto_region 2 with fail
  go_cut [7] (fun sx6 wy => ∃ (wx6 : World) (g : Nat) (A8 : Option Addr) (n8 : Nat) (c8 : Nat) (A9 : Option Addr) (n9 : Nat) (c9 : Nat) (s10 : Bool) (A10 : Option Addr) (n10 : Nat) (c10 : Nat), wx6 = wy ∧ sx6 = .pointer (some ⟨g, 0, none⟩) ∧ Sb wx6 g (.bool s10) (.slice A10 n10 c10) ∧ w.heap.size ≤ g ∧ w.heap.size < g ∧ w.heap.size + 1 < g ∧ w.heap.size + 2 < g ∧ Sq wx6 (w.heap.size) (.bool s) (.slice A n c) (.slice B m d) ∧ Sq wx6 (w.heap.size + 1) (.bool t) (.slice A' n' c') (.slice B' m' d') ∧ Sq wx6 (w.heap.size + 2) (.bool false) (.slice none 0 0) (.slice none 0 0) ∧ Nz wx6 A n c 4000 X ∧ Nz wx6 A' n' c' 4000 X' ∧ Nz wx6 A5 n5 c5 4000 D ∧ Nz wx6 A6 n6 c6 4000 D' ∧ Cz wx6 s10 A10 n10 c10 z ∧ Below w.heap.size w wx6)
  case first =>
    have hx_7 := hx_6.drew
    have hy_7 := hy_6.drew
    have kx_7 := kx_6.drew
    have ky_7 := ky_6.drew
    have a_7 := a_6.drew
    have b_7 := b.drew
    have ba_7 := ba_6.drew
    have bb_7 := bb_6.drew
    have br_7 := br_6.drew
    have F7 := F6.drew
    have hx_z0 := (hx_6.alloc E0).drew
    have hy_z0 := (hy_6.alloc E0).drew
    have kx_z0 := (kx_6.alloc E0).drew
    have ky_z0 := (ky_6.alloc E0).drew
    have a_z0 := (a_6.alloc E0).drew
    have b_z0 := (b.alloc E0).drew
    have ba_z0 := (ba_6.alloc E0).drew
    have bb_z0 := (bb_6.alloc E0).drew
    have br_z0 := (br_6.alloc E0).drew
    have lz_ba := ba_6.lt
    have lz_bb := bb_6.lt
    have lz_br := br_6.lt
    have gl := F6.size
    have F_z0 := (F6.alloc F6.size E0).drew
    have zb_0 : Sb ((w6).alloc E0).drew (w6.heap.size) (.bool false) (.slice none 0 0) := by have h_ := Sb.new (w6) (.bool false) (.slice none 0 0); exact h_.drew
    go_region_held3 (fun w' => w'.cell? ⟨w.heap.size, 0, none⟩ = some (.bool s) ∧ w'.cell? ⟨w.heap.size, 1, none⟩ = some (.slice A n c) ∧ w'.cell? ⟨w.heap.size, 2, none⟩ = some (.slice B m d) ∧ w'.cell? ⟨w.heap.size + 1, 0, none⟩ = some (.bool t) ∧ w'.cell? ⟨w.heap.size + 1, 1, none⟩ = some (.slice A' n' c') ∧ w'.cell? ⟨w.heap.size + 1, 2, none⟩ = some (.slice B' m' d'))
      (first
        | with_reducible exact ⟨(ba_10.alloc (EI s10 A10 n10 c10)).cell0, (ba_10.alloc (EI s10 A10 n10 c10)).cell1, (ba_10.alloc (EI s10 A10 n10 c10)).cell2, (bb_10.alloc (EI s10 A10 n10 c10)).cell0, (bb_10.alloc (EI s10 A10 n10 c10)).cell1, (bb_10.alloc (EI s10 A10 n10 c10)).cell2⟩
        | with_reducible exact ⟨(ba_10.pastI (u0 := .bool s10) (u1 := .slice A10 n10 c10) (Nat.ne_of_lt lz_ba)).cell0, (ba_10.pastI (u0 := .bool s10) (u1 := .slice A10 n10 c10) (Nat.ne_of_lt lz_ba)).cell1, (ba_10.pastI (u0 := .bool s10) (u1 := .slice A10 n10 c10) (Nat.ne_of_lt lz_ba)).cell2, (bb_10.pastI (u0 := .bool s10) (u1 := .slice A10 n10 c10) (Nat.ne_of_lt lz_bb)).cell0, (bb_10.pastI (u0 := .bool s10) (u1 := .slice A10 n10 c10) (Nat.ne_of_lt lz_bb)).cell1, (bb_10.pastI (u0 := .bool s10) (u1 := .slice A10 n10 c10) (Nat.ne_of_lt lz_bb)).cell2⟩
        | with_reducible exact ⟨(ba_10.alloc E0).cell0, (ba_10.alloc E0).cell1, (ba_10.alloc E0).cell2, (bb_10.alloc E0).cell0, (bb_10.alloc E0).cell1, (bb_10.alloc E0).cell2⟩
        | with_reducible exact ⟨ba_10.cell0, ba_10.cell1, ba_10.cell2, bb_10.cell0, bb_10.cell1, bb_10.cell2⟩
        | with_reducible exact ⟨ba_9.alloc E0 |>.cell0, ba_9.alloc E0 |>.cell1, ba_9.alloc E0 |>.cell2, bb_9.alloc E0 |>.cell0, bb_9.alloc E0 |>.cell1, bb_9.alloc E0 |>.cell2⟩
        | with_reducible exact ⟨(ba_9.alloc E0).cell0, (ba_9.alloc E0).cell1, (ba_9.alloc E0).cell2, (bb_9.alloc E0).cell0, (bb_9.alloc E0).cell1, (bb_9.alloc E0).cell2⟩
        | with_reducible exact ⟨ba_9.cell0, ba_9.cell1, ba_9.cell2, bb_9.cell0, bb_9.cell1, bb_9.cell2⟩
        | with_reducible exact ⟨ba_8.alloc E0 |>.cell0, ba_8.alloc E0 |>.cell1, ba_8.alloc E0 |>.cell2, bb_8.alloc E0 |>.cell0, bb_8.alloc E0 |>.cell1, bb_8.alloc E0 |>.cell2⟩
        | with_reducible exact ⟨(ba_8.alloc E0).cell0, (ba_8.alloc E0).cell1, (ba_8.alloc E0).cell2, (bb_8.alloc E0).cell0, (bb_8.alloc E0).cell1, (bb_8.alloc E0).cell2⟩
        | with_reducible exact ⟨ba_8.cell0, ba_8.cell1, ba_8.cell2, bb_8.cell0, bb_8.cell1, bb_8.cell2⟩
        | with_reducible exact ⟨ba_z0.cell0, ba_z0.cell1, ba_z0.cell2, bb_z0.cell0, bb_z0.cell1, bb_z0.cell2⟩
        | with_reducible exact ⟨ba_7.cell0, ba_7.cell1, ba_7.cell2, bb_7.cell0, bb_7.cell1, bb_7.cell2⟩
        | fail)
      (first
        | (go_at_call 64; (with_reducible refine (multiple_n _ _ _ _ _ _ _ _ _ _ 4000 4000 8000 _ _ (X * D') _ rfl hx_7 b_7 o3 o4).mono ?_); rintro e w8 ⟨A8, n8, c8, rfl, p1, b8⟩; have hx_8 := hx_7.below b8; have hy_8 := hy_7.below b8; have kx_8 := kx_7.below b8; have ky_8 := ky_7.below b8; have a_8 := a_7.below b8; have b_8 := b_7.below b8; have ba_8 := ba_7.below b8 ba_7.lt; have bb_8 := bb_7.below b8 bb_7.lt; have br_8 := br_7.below b8 br_7.lt; have F8 := below_then F7 (Nat.le_refl _) b8)
        | (go_at_call 64; (with_reducible refine (multiple_n _ _ _ _ _ _ _ _ _ _ 4000 4000 8000 _ _ (X * D') _ rfl hx_z0 b_z0 o3 o4).mono ?_); rintro e w8 ⟨A8, n8, c8, rfl, p1, b8⟩; have hx_8 := hx_z0.below b8; have hy_8 := hy_z0.below b8; have kx_8 := kx_z0.below b8; have ky_8 := ky_z0.below b8; have a_8 := a_z0.below b8; have b_8 := b_z0.below b8; have ba_8 := ba_z0.below b8 ba_z0.lt; have bb_8 := bb_z0.below b8 bb_z0.lt; have br_8 := br_z0.below b8 br_z0.lt; have F8 := below_then F_z0 (Nat.le_refl _) b8; have zb_8 := zb_0.below b8 zb_0.lt)
        | (go_at_call 64; (with_reducible refine (multiple_n _ _ _ _ _ _ _ _ _ _ 4000 4000 8000 _ _ (X' * D) _ rfl kx_8 a_8 o3 o4).mono ?_); rintro e w9 ⟨A9, n9, c9, rfl, p2, b9⟩; have hx_9 := hx_8.below b9; have hy_9 := hy_8.below b9; have kx_9 := kx_8.below b9; have ky_9 := ky_8.below b9; have a_9 := a_8.below b9; have b_9 := b_8.below b9; have p1_9 := p1.below b9; have ba_9 := ba_8.below b9 ba_8.lt; have bb_9 := bb_8.below b9 bb_8.lt; have br_9 := br_8.below b9 br_8.lt; have F9 := below_then F8 (Nat.le_refl _) b9; have zb_9 := zb_8.below b9 zb_8.lt)
        | (go_at_call 64; (with_reducible refine (multiple_n _ _ _ _ _ _ _ _ _ _ 4000 4000 8000 _ _ (X' * D) _ rfl kx_8 a_8 o3 o4).mono ?_); rintro e w9 ⟨A9, n9, c9, rfl, p2, b9⟩; have hx_9 := hx_8.below b9; have hy_9 := hy_8.below b9; have kx_9 := kx_8.below b9; have ky_9 := ky_8.below b9; have a_9 := a_8.below b9; have b_9 := b_8.below b9; have p1_9 := p1.below b9; have ba_9 := ba_8.below b9 ba_8.lt; have bb_9 := bb_8.below b9 bb_8.lt; have br_9 := br_8.below b9 br_8.lt; have F9 := below_then F8 (Nat.le_refl _) b9)
        | (have hx_z9 := hx_8.alloc E0; have hy_z9 := hy_8.alloc E0; have kx_z9 := kx_8.alloc E0; have ky_z9 := ky_8.alloc E0; have a_z9 := a_8.alloc E0; have b_z9 := b_8.alloc E0; have p1_z9 := p1.alloc E0; have ba_z9 := ba_8.alloc E0; have bb_z9 := bb_8.alloc E0; have br_z9 := br_8.alloc E0; have lz_ba := ba_8.lt; have lz_bb := bb_8.lt; have lz_br := br_8.lt; have gl := F8.size; have F_z9 := F8.alloc F8.size E0; have zb_8 := Sb.new (w8) (.bool false) (.slice none 0 0); go_at_call 64; (with_reducible refine (multiple_n _ _ _ _ _ _ _ _ _ _ 4000 4000 8000 _ _ (X' * D) _ rfl kx_z9 a_z9 o3 o4).mono ?_); rintro e w9 ⟨A9, n9, c9, rfl, p2, b9⟩; have hx_9 := hx_z9.below b9; have hy_9 := hy_z9.below b9; have kx_9 := kx_z9.below b9; have ky_9 := ky_z9.below b9; have a_9 := a_z9.below b9; have b_9 := b_z9.below b9; have p1_9 := p1_z9.below b9; have ba_9 := ba_z9.below b9 ba_z9.lt; have bb_9 := bb_z9.below b9 bb_z9.lt; have br_9 := br_z9.below b9 br_z9.lt; have F9 := below_then F_z9 (Nat.le_refl _) b9; have zb_9 := zb_8.below b9 zb_8.lt)
        | (go_at_call 70; (with_reducible refine (add_int _ _ _ _ _ _ _ _ _ _ z _ HZ.out (p1_9.iz s) (p2.iz t) (Nat.le_trans p1_9.le o5) (Nat.le_trans p2.le o5)).mono ?_); rintro e w10 ⟨s10, A10, n10, c10, rfl, zz, b10⟩; have hx_10 := hx_9.below b10; have hy_10 := hy_9.below b10; have kx_10 := kx_9.below b10; have ky_10 := ky_9.below b10; have a_10 := a_9.below b10; have b_10 := b_9.below b10; have p1_10 := p1_9.below b10; have p2_10 := p2.below b10; have ba_10 := ba_9.below b10 ba_9.lt; have bb_10 := bb_9.below b10 bb_9.lt; have br_10 := br_9.below b10 br_9.lt; have F10 := below_then F9 (Nat.le_refl _) b10; have zb_10 := zb_9.below b10 zb_9.lt; have zk10_0 := zb_10.cell0; have zk10_1 := zb_10.cell1; have zf10_0 := zb_10.frozen 0; have zf10_1 := zb_10.frozen 1)
        | (go_at_call 70; (with_reducible refine (add_int _ _ _ _ _ _ _ _ _ _ z _ HZ.out (p1_9.iz s) (p2.iz t) (Nat.le_trans p1_9.le o5) (Nat.le_trans p2.le o5)).mono ?_); rintro e w10 ⟨s10, A10, n10, c10, rfl, zz, b10⟩; have hx_10 := hx_9.below b10; have hy_10 := hy_9.below b10; have kx_10 := kx_9.below b10; have ky_10 := ky_9.below b10; have a_10 := a_9.below b10; have b_10 := b_9.below b10; have p1_10 := p1_9.below b10; have p2_10 := p2.below b10; have ba_10 := ba_9.below b10 ba_9.lt; have bb_10 := bb_9.below b10 bb_9.lt; have br_10 := br_9.below b10 br_9.lt; have F10 := below_then F9 (Nat.le_refl _) b10)
        | (have hx_z10 := hx_9.alloc E0; have hy_z10 := hy_9.alloc E0; have kx_z10 := kx_9.alloc E0; have ky_z10 := ky_9.alloc E0; have a_z10 := a_9.alloc E0; have b_z10 := b_9.alloc E0; have p1_z10 := p1_9.alloc E0; have p2_z10 := p2.alloc E0; have ba_z10 := ba_9.alloc E0; have bb_z10 := bb_9.alloc E0; have br_z10 := br_9.alloc E0; have lz_ba := ba_9.lt; have lz_bb := bb_9.lt; have lz_br := br_9.lt; have gl := F9.size; have F_z10 := F9.alloc F9.size E0; have zb_9 := Sb.new (w9) (.bool false) (.slice none 0 0); go_at_call 70; (with_reducible refine (add_int _ _ _ _ _ _ _ _ _ _ z _ HZ.out (p1_z10.iz s) (p2_z10.iz t) (Nat.le_trans p1_z10.le o5) (Nat.le_trans p2_z10.le o5)).mono ?_); rintro e w10 ⟨s10, A10, n10, c10, rfl, zz, b10⟩; have hx_10 := hx_z10.below b10; have hy_10 := hy_z10.below b10; have kx_10 := kx_z10.below b10; have ky_10 := ky_z10.below b10; have a_10 := a_z10.below b10; have b_10 := b_z10.below b10; have p1_10 := p1_z10.below b10; have p2_10 := p2_z10.below b10; have ba_10 := ba_z10.below b10 ba_z10.lt; have bb_10 := bb_z10.below b10 bb_z10.lt; have br_10 := br_z10.below b10 br_z10.lt; have F10 := below_then F_z10 (Nat.le_refl _) b10; have zb_10 := zb_9.below b10 zb_9.lt; have zk10_0 := zb_10.cell0; have zk10_1 := zb_10.cell1; have zf10_0 := zb_10.frozen 0; have zf10_1 := zb_10.frozen 1)
        | fail)
    all_goals (go_wp2_with fail; go_meet; first | exact ⟨_, _, A8, n8, c8, A9, n9, c9, s10, A10, n10, c10, rfl, rfl, zb_10.stor, gl, lz_ba, lz_bb, lz_br, ba_10.pastI (Nat.ne_of_lt lz_ba), bb_10.pastI (Nat.ne_of_lt lz_bb), br_10.pastI (Nat.ne_of_lt lz_br), hx_10.storI zb_10 (.bool s10) (.slice A10 n10 c10), kx_10.storI zb_10 (.bool s10) (.slice A10 n10 c10), a_10.storI zb_10 (.bool s10) (.slice A10 n10 c10), b_10.storI zb_10 (.bool s10) (.slice A10 n10 c10), zz.storI zb_10 (.bool s10) (.slice A10 n10 c10), below_stor F10 gl⟩ | exact ⟨_, _, A8, n8, c8, A9, n9, c9, s10, A10, n10, c10, rfl, rfl, Sb.new w10 (.bool s10) (.slice A10 n10 c10), F10.size, ba_10.lt, bb_10.lt, br_10.lt, ba_10.alloc (EI s10 A10 n10 c10), bb_10.alloc (EI s10 A10 n10 c10), br_10.alloc (EI s10 A10 n10 c10), hx_10.alloc (EI s10 A10 n10 c10), kx_10.alloc (EI s10 A10 n10 c10), a_10.alloc (EI s10 A10 n10 c10), b_10.alloc (EI s10 A10 n10 c10), zz.alloc (EI s10 A10 n10 c10), F10.alloc F10.size _⟩ | fail)
  case rest =>
    obtain ⟨wx6, g11, A8, n8, c8, A9, n9, c9, s10, A10, n10, c10, rfl, rfl, bs_11, gl_11, lt_bs_ba, lt_bs_bb, lt_bs_br, ba_11, bb_11, br_11, hx_11, kx_11, a_11, b_11, zz_11, F11⟩ := hcut
    have ba_u11 := ba_11.cell0
    have ba_v11 := ba_11.cell1
    have ba_w11 := ba_11.cell2
    have bb_u11 := bb_11.cell0
    have bb_v11 := bb_11.cell1
    have bb_w11 := bb_11.cell2
    have br_u11 := br_11.cell0
    have br_v11 := br_11.cell1
    have br_w11 := br_11.cell2
    have bs_u11 := bs_11.cell0
    have bs_v11 := bs_11.cell1
    have hQ : mkRat (iv s10 (dg z.natAbs)) (D * D') = r := by rw [show iv s10 (dg z.natAbs) = z from by rw [iv, val_dg, zz_11.2]; split <;> rename_i h0 <;> rw [decide_eq_true_eq] at h0 <;> omega]; exact HQ.out
    have HQQ := hide hQ
    clear hQ
    go_wp2_with fail
    have hx_12 := hx_11.drew
    have kx_12 := kx_11.drew
    have a_12 := a_11.drew
    have b_12 := b_11.drew
    have zz_12 := zz_11.drew
    have ba_12 := ba_11.drew
    have bb_12 := bb_11.drew
    have br_12 := br_11.drew
    have bs_12 := bs_11.drew
    have F12 := F11.drew
    go_region_held3 (fun w' => w'.cell? ⟨g11, 0, none⟩ = some (.bool s10) ∧ w'.cell? ⟨g11, 1, none⟩ = some (.slice A10 n10 c10))
      (first
        | with_reducible exact ⟨bs_p.cell0, bs_p.cell1⟩
        | with_reducible exact ⟨bs_14.cell0, bs_14.cell1⟩
        | with_reducible exact ⟨bs_13.cell0, bs_13.cell1⟩
        | with_reducible exact ⟨bs_12.cell0, bs_12.cell1⟩
        | fail)
      (first
        | (go_at_call 71; (with_reducible refine (mul_n _ _ _ _ _ _ 4000 4000 8000 _ _ (D * D') _ rfl a_12 b_12 o3 o4).mono ?_); rintro e w13 ⟨A13, n13, c13, rfl, p3, b13⟩; have hx_13 := hx_12.below b13; have kx_13 := kx_12.below b13; have a_13 := a_12.below b13; have b_13 := b_12.below b13; have zz_13 := zz_12.below b13; have ba_13 := ba_12.below b13 ba_12.lt; have bb_13 := bb_12.below b13 bb_12.lt; have br_13 := br_12.below b13 br_12.lt; have bs_13 := bs_12.below b13 bs_12.lt; have F13 := below_then F12 (Nat.le_refl _) b13)
        | (go_at_call 66; (with_reducible refine (quo_n _ _ _ _ _ _ _ _ _ _ _ r _ HQQ.out H0 (zz_13.ny HZL.out) p3 o6 o5).mono ?_); rintro e w14 ⟨s14, A14, n14, c14, B14, m14, d14, rfl, kk, b14⟩; have hx_14 := hx_13.below b14; have kx_14 := kx_13.below b14; have a_14 := a_13.below b14; have b_14 := b_13.below b14; have zz_14 := zz_13.below b14; have p3_14 := p3.below b14; have ba_14 := ba_13.below b14 ba_13.lt; have bb_14 := bb_13.below b14 bb_13.lt; have br_14 := br_13.below b14 br_13.lt; have bs_14 := bs_13.below b14 bs_13.lt; have F14 := below_then F13 (Nat.le_refl _) b14; have br_g0 := br_14.cell0; have br_h0 := br_14.frozen 0; have br_g1 := br_14.cell1; have br_h1 := br_14.frozen 1; have br_g2 := br_14.cell2; have br_h2 := br_14.frozen 2; have bs_p := bs_14.pastQ (g' := w.heap.size + 2) (u0 := .bool s14) (u1 := .slice A14 n14 c14) (u2 := .slice B14 m14 d14) (by omega))
        | fail)
    go_wp2_with fail
    refine bodyPost_ret (v := .agg #[.bool s14, .slice A14 n14 c14, .slice B14 m14 d14]) (by simp [results, Try.results48, go_sem, (br_14.set0 (.bool s14)).cell0, ((br_14.set0 (.bool s14)).set1 (.slice A14 n14 c14)).cell1, (((br_14.set0 (.bool s14)).set1 (.slice A14 n14 c14)).set2 (.slice B14 m14 d14)).cell2]) rfl (gq_end F14 (by omega) br_14 kk)
theorem min_q (s t : Bool) (A B A' B' : Option Addr) (n c m d n' c' m' d' : Nat) (p q x : Rat) (w : World) (hv : (if p ≤ q then p else q) = x) (h : Iq w s A n c B m d p) (k : Iq w t A' n' c' B' m' d' q) (hn : n ≤ 4000) (hm : m ≤ 4000) (hn' : n' ≤ 4000) (hm' : m' ≤ 4000) :
    Calls Try.prog 61 #[.agg #[.bool s, .slice A n c, .slice B m d], .agg #[.bool t, .slice A' n' c', .slice B' m' d']] w (GQ w x) := by
  obtain ⟨r, hr⟩ : ∃ r, sz (q - p).num = r := ⟨_, rfl⟩
  have n1 : n ≤ 16384 := by omega
  have n2 : m ≤ 16384 := by omega
  have n3 : n' ≤ 16384 := by omega
  have n4 : m' ≤ 16384 := by omega
  have HR := hide hr
  have hc : 0 ≤ r ↔ p ≤ q := by
    rw [← hr]
    rw [← cmp_le (p := p) (q := q), sz_swap p q]; omega
  clear hr
  by_cases h0 : p ≤ q
  · rw [if_pos h0] at hv
    subst hv
    have d1 : decide (r < 0) = false := decide_eq_false (by have := hc.2 h0; omega)
    clear hc h0
    have h_1 := h.alloc (EQ s A n c B m d)
    have k_1 := k.alloc (EQ s A n c B m d)
    have ba_1 : Sq ((w).alloc (EQ s A n c B m d)) (w.heap.size) (.bool s) (.slice A n c) (.slice B m d) := by have h_ := Sq.new (w) (.bool s) (.slice A n c) (.slice B m d); exact h_
    have F1 := (Below.refl w.heap.size w).alloc (Nat.le_refl _) (EQ s A n c B m d)
    have h_2 := h_1.alloc (EQ t A' n' c' B' m' d')
    have k_2 := k_1.alloc (EQ t A' n' c' B' m' d')
    have ba_2 := ba_1.alloc (EQ t A' n' c' B' m' d')
    have bb_2 : Sq (((w).alloc (EQ s A n c B m d)).alloc (EQ t A' n' c' B' m' d')) (w.heap.size + 1) (.bool t) (.slice A' n' c') (.slice B' m' d') := by have h_ := Sq.new ((w).alloc (EQ s A n c B m d)) (.bool t) (.slice A' n' c') (.slice B' m' d'); simp only [World.size_alloc] at h_; exact h_
    have F2 := F1.alloc F1.size (EQ t A' n' c' B' m' d')
    have h_3 := h_2.alloc EQ0
    have k_3 := k_2.alloc EQ0
    have ba_3 := ba_2.alloc EQ0
    have bb_3 := bb_2.alloc EQ0
    have br_3 : Sq ((((w).alloc (EQ s A n c B m d)).alloc (EQ t A' n' c' B' m' d')).alloc EQ0) (w.heap.size + 2) (.bool false) (.slice none 0 0) (.slice none 0 0) := by have h_ := Sq.new (((w).alloc (EQ s A n c B m d)).alloc (EQ t A' n' c' B' m' d')) (.bool false) (.slice none 0 0) (.slice none 0 0); simp only [World.size_alloc] at h_; exact h_
    have F3 := F2.alloc F2.size EQ0
    go_enter Try.func61, Try.ntmps61
    go_wp2_with fail
    refine (cmp_q _ _ _ _ _ _ _ _ _ _ _ _ _ _ _ _ r _ HR.out k_3 h_3 hn' hm' hn hm).mono ?_
    rintro e w4 ⟨rfl, b4⟩
    have h_4 := h_3.below b4
    have k_4 := k_3.below b4
    have ba_4 := ba_3.below b4 ba_3.lt
    have bb_4 := bb_3.below b4 bb_3.lt
    have br_4 := br_3.below b4 br_3.lt
    have F4 := below_then F3 (Nat.le_refl _) b4
    have ba_u4 := ba_4.cell0
    have ba_v4 := ba_4.cell1
    have ba_w4 := ba_4.cell2
    have bb_u4 := bb_4.cell0
    have bb_v4 := bb_4.cell1
    have bb_w4 := bb_4.cell2
    have br_u4 := br_4.cell0
    have br_v4 := br_4.cell1
    have br_w4 := br_4.cell2
    go_wp2_with fail
    refine (canon_q _ _ _ _ _ _ _ _ _ h_4 n1 n2).mono ?_
    rintro e w5 ⟨s5, A5, n5, c5, B5, m5, d5, rfl, y, b5⟩
    have h_5 := h_4.below b5
    have k_5 := k_4.below b5
    have ba_5 := ba_4.below b5 ba_4.lt
    have bb_5 := bb_4.below b5 bb_4.lt
    have br_5 := br_4.below b5 br_4.lt
    have F5 := below_then F4 (Nat.le_refl _) b5
    have ba_u5 := ba_5.cell0
    have ba_v5 := ba_5.cell1
    have ba_w5 := ba_5.cell2
    have bb_u5 := bb_5.cell0
    have bb_v5 := bb_5.cell1
    have bb_w5 := bb_5.cell2
    have br_u5 := br_5.cell0
    have br_v5 := br_5.cell1
    have br_w5 := br_5.cell2
    have br_f05 := br_5.frozen 0
    have br_f15 := br_5.frozen 1
    have br_f25 := br_5.frozen 2
    go_wp2_with fail
    refine bodyPost_ret (v := .agg #[.bool s5, .slice A5 n5 c5, .slice B5 m5 d5]) (by simp [results, Try.results61, go_sem, (br_5.set0 (.bool s5)).cell0, ((br_5.set0 (.bool s5)).set1 (.slice A5 n5 c5)).cell1, (((br_5.set0 (.bool s5)).set1 (.slice A5 n5 c5)).set2 (.slice B5 m5 d5)).cell2]) rfl (gq_end F5 (by omega) br_5 y)
  · rw [if_neg h0] at hv
    subst hv
    have d1 : decide (r < 0) = true := decide_eq_true (by have : ¬ 0 ≤ r := fun e => h0 (hc.1 e); omega)
    clear hc h0
    have h_1 := h.alloc (EQ s A n c B m d)
    have k_1 := k.alloc (EQ s A n c B m d)
    have ba_1 : Sq ((w).alloc (EQ s A n c B m d)) (w.heap.size) (.bool s) (.slice A n c) (.slice B m d) := by have h_ := Sq.new (w) (.bool s) (.slice A n c) (.slice B m d); exact h_
    have F1 := (Below.refl w.heap.size w).alloc (Nat.le_refl _) (EQ s A n c B m d)
    have h_2 := h_1.alloc (EQ t A' n' c' B' m' d')
    have k_2 := k_1.alloc (EQ t A' n' c' B' m' d')
    have ba_2 := ba_1.alloc (EQ t A' n' c' B' m' d')
    have bb_2 : Sq (((w).alloc (EQ s A n c B m d)).alloc (EQ t A' n' c' B' m' d')) (w.heap.size + 1) (.bool t) (.slice A' n' c') (.slice B' m' d') := by have h_ := Sq.new ((w).alloc (EQ s A n c B m d)) (.bool t) (.slice A' n' c') (.slice B' m' d'); simp only [World.size_alloc] at h_; exact h_
    have F2 := F1.alloc F1.size (EQ t A' n' c' B' m' d')
    have h_3 := h_2.alloc EQ0
    have k_3 := k_2.alloc EQ0
    have ba_3 := ba_2.alloc EQ0
    have bb_3 := bb_2.alloc EQ0
    have br_3 : Sq ((((w).alloc (EQ s A n c B m d)).alloc (EQ t A' n' c' B' m' d')).alloc EQ0) (w.heap.size + 2) (.bool false) (.slice none 0 0) (.slice none 0 0) := by have h_ := Sq.new (((w).alloc (EQ s A n c B m d)).alloc (EQ t A' n' c' B' m' d')) (.bool false) (.slice none 0 0) (.slice none 0 0); simp only [World.size_alloc] at h_; exact h_
    have F3 := F2.alloc F2.size EQ0
    go_enter Try.func61, Try.ntmps61
    go_wp2_with fail
    refine (cmp_q _ _ _ _ _ _ _ _ _ _ _ _ _ _ _ _ r _ HR.out k_3 h_3 hn' hm' hn hm).mono ?_
    rintro e w4 ⟨rfl, b4⟩
    have h_4 := h_3.below b4
    have k_4 := k_3.below b4
    have ba_4 := ba_3.below b4 ba_3.lt
    have bb_4 := bb_3.below b4 bb_3.lt
    have br_4 := br_3.below b4 br_3.lt
    have F4 := below_then F3 (Nat.le_refl _) b4
    have ba_u4 := ba_4.cell0
    have ba_v4 := ba_4.cell1
    have ba_w4 := ba_4.cell2
    have bb_u4 := bb_4.cell0
    have bb_v4 := bb_4.cell1
    have bb_w4 := bb_4.cell2
    have br_u4 := br_4.cell0
    have br_v4 := br_4.cell1
    have br_w4 := br_4.cell2
    have ba_f04 := ba_4.frozen 0
    have ba_f14 := ba_4.frozen 1
    have ba_f24 := ba_4.frozen 2
    have h_5 := h_4.storQ9 ba_4 (.bool t) (.slice A' n' c') (.slice B' m' d')
    have k_5 := k_4.storQ9 ba_4 (.bool t) (.slice A' n' c') (.slice B' m' d')
    have ba_5 := ba_4.stor (u0 := .bool t) (u1 := .slice A' n' c') (u2 := .slice B' m' d')
    have bb_5 := bb_4.past (g' := w.heap.size) (u0 := .bool t) (u1 := .slice A' n' c') (u2 := .slice B' m' d') (by omega)
    have br_5 := br_4.past (g' := w.heap.size) (u0 := .bool t) (u1 := .slice A' n' c') (u2 := .slice B' m' d') (by omega)
    have F5 := below_storQ (u0 := .bool t) (u1 := .slice A' n' c') (u2 := .slice B' m' d') F4 (show w.heap.size ≤ w.heap.size by omega)
    have ba_u5 := ba_5.cell0
    have ba_v5 := ba_5.cell1
    have ba_w5 := ba_5.cell2
    have bb_u5 := bb_5.cell0
    have bb_v5 := bb_5.cell1
    have bb_w5 := bb_5.cell2
    have br_u5 := br_5.cell0
    have br_v5 := br_5.cell1
    have br_w5 := br_5.cell2
    go_wp2_with fail
    refine (canon_q _ _ _ _ _ _ _ _ _ k_5 n3 n4).mono ?_
    rintro e w6 ⟨s6, A6, n6, c6, B6, m6, d6, rfl, y, b6⟩
    have h_6 := h_5.below b6
    have k_6 := k_5.below b6
    have ba_6 := ba_5.below b6 ba_5.lt
    have bb_6 := bb_5.below b6 bb_5.lt
    have br_6 := br_5.below b6 br_5.lt
    have F6 := below_then F5 (Nat.le_refl _) b6
    have ba_u6 := ba_6.cell0
    have ba_v6 := ba_6.cell1
    have ba_w6 := ba_6.cell2
    have bb_u6 := bb_6.cell0
    have bb_v6 := bb_6.cell1
    have bb_w6 := bb_6.cell2
    have br_u6 := br_6.cell0
    have br_v6 := br_6.cell1
    have br_w6 := br_6.cell2
    have br_f06 := br_6.frozen 0
    have br_f16 := br_6.frozen 1
    have br_f26 := br_6.frozen 2
    go_wp2_with fail
    refine bodyPost_ret (v := .agg #[.bool s6, .slice A6 n6 c6, .slice B6 m6 d6]) (by simp [results, Try.results61, go_sem, (br_6.set0 (.bool s6)).cell0, ((br_6.set0 (.bool s6)).set1 (.slice A6 n6 c6)).cell1, (((br_6.set0 (.bool s6)).set1 (.slice A6 n6 c6)).set2 (.slice B6 m6 d6)).cell2]) rfl (gq_end F6 (by omega) br_6 y)
theorem max_q (s t : Bool) (A B A' B' : Option Addr) (n c m d n' c' m' d' : Nat) (p q x : Rat) (w : World) (hv : (if q ≤ p then p else q) = x) (h : Iq w s A n c B m d p) (k : Iq w t A' n' c' B' m' d' q) (hn : n ≤ 4000) (hm : m ≤ 4000) (hn' : n' ≤ 4000) (hm' : m' ≤ 4000) :
    Calls Try.prog 59 #[.agg #[.bool s, .slice A n c, .slice B m d], .agg #[.bool t, .slice A' n' c', .slice B' m' d']] w (GQ w x) := by
  obtain ⟨r, hr⟩ : ∃ r, sz (q - p).num = r := ⟨_, rfl⟩
  have n1 : n ≤ 16384 := by omega
  have n2 : m ≤ 16384 := by omega
  have n3 : n' ≤ 16384 := by omega
  have n4 : m' ≤ 16384 := by omega
  have HR := hide hr
  have hc : r ≤ 0 ↔ q ≤ p := by
    rw [← hr]
    exact cmp_le
  clear hr
  by_cases h0 : q ≤ p
  · rw [if_pos h0] at hv
    subst hv
    have d1 : decide (0 < r) = false := decide_eq_false (by have := hc.2 h0; omega)
    clear hc h0
    have h_1 := h.alloc (EQ s A n c B m d)
    have k_1 := k.alloc (EQ s A n c B m d)
    have ba_1 : Sq ((w).alloc (EQ s A n c B m d)) (w.heap.size) (.bool s) (.slice A n c) (.slice B m d) := by have h_ := Sq.new (w) (.bool s) (.slice A n c) (.slice B m d); exact h_
    have F1 := (Below.refl w.heap.size w).alloc (Nat.le_refl _) (EQ s A n c B m d)
    have h_2 := h_1.alloc (EQ t A' n' c' B' m' d')
    have k_2 := k_1.alloc (EQ t A' n' c' B' m' d')
    have ba_2 := ba_1.alloc (EQ t A' n' c' B' m' d')
    have bb_2 : Sq (((w).alloc (EQ s A n c B m d)).alloc (EQ t A' n' c' B' m' d')) (w.heap.size + 1) (.bool t) (.slice A' n' c') (.slice B' m' d') := by have h_ := Sq.new ((w).alloc (EQ s A n c B m d)) (.bool t) (.slice A' n' c') (.slice B' m' d'); simp only [World.size_alloc] at h_; exact h_
    have F2 := F1.alloc F1.size (EQ t A' n' c' B' m' d')
    have h_3 := h_2.alloc EQ0
    have k_3 := k_2.alloc EQ0
    have ba_3 := ba_2.alloc EQ0
    have bb_3 := bb_2.alloc EQ0
    have br_3 : Sq ((((w).alloc (EQ s A n c B m d)).alloc (EQ t A' n' c' B' m' d')).alloc EQ0) (w.heap.size + 2) (.bool false) (.slice none 0 0) (.slice none 0 0) := by have h_ := Sq.new (((w).alloc (EQ s A n c B m d)).alloc (EQ t A' n' c' B' m' d')) (.bool false) (.slice none 0 0) (.slice none 0 0); simp only [World.size_alloc] at h_; exact h_
    have F3 := F2.alloc F2.size EQ0
    go_enter Try.func59, Try.ntmps59
    go_wp2_with fail
    refine (cmp_q _ _ _ _ _ _ _ _ _ _ _ _ _ _ _ _ r _ HR.out k_3 h_3 hn' hm' hn hm).mono ?_
    rintro e w4 ⟨rfl, b4⟩
    have h_4 := h_3.below b4
    have k_4 := k_3.below b4
    have ba_4 := ba_3.below b4 ba_3.lt
    have bb_4 := bb_3.below b4 bb_3.lt
    have br_4 := br_3.below b4 br_3.lt
    have F4 := below_then F3 (Nat.le_refl _) b4
    have ba_u4 := ba_4.cell0
    have ba_v4 := ba_4.cell1
    have ba_w4 := ba_4.cell2
    have bb_u4 := bb_4.cell0
    have bb_v4 := bb_4.cell1
    have bb_w4 := bb_4.cell2
    have br_u4 := br_4.cell0
    have br_v4 := br_4.cell1
    have br_w4 := br_4.cell2
    go_wp2_with fail
    refine (canon_q _ _ _ _ _ _ _ _ _ h_4 n1 n2).mono ?_
    rintro e w5 ⟨s5, A5, n5, c5, B5, m5, d5, rfl, y, b5⟩
    have h_5 := h_4.below b5
    have k_5 := k_4.below b5
    have ba_5 := ba_4.below b5 ba_4.lt
    have bb_5 := bb_4.below b5 bb_4.lt
    have br_5 := br_4.below b5 br_4.lt
    have F5 := below_then F4 (Nat.le_refl _) b5
    have ba_u5 := ba_5.cell0
    have ba_v5 := ba_5.cell1
    have ba_w5 := ba_5.cell2
    have bb_u5 := bb_5.cell0
    have bb_v5 := bb_5.cell1
    have bb_w5 := bb_5.cell2
    have br_u5 := br_5.cell0
    have br_v5 := br_5.cell1
    have br_w5 := br_5.cell2
    have br_f05 := br_5.frozen 0
    have br_f15 := br_5.frozen 1
    have br_f25 := br_5.frozen 2
    go_wp2_with fail
    refine bodyPost_ret (v := .agg #[.bool s5, .slice A5 n5 c5, .slice B5 m5 d5]) (by simp [results, Try.results59, go_sem, (br_5.set0 (.bool s5)).cell0, ((br_5.set0 (.bool s5)).set1 (.slice A5 n5 c5)).cell1, (((br_5.set0 (.bool s5)).set1 (.slice A5 n5 c5)).set2 (.slice B5 m5 d5)).cell2]) rfl (gq_end F5 (by omega) br_5 y)
  · rw [if_neg h0] at hv
    subst hv
    have d1 : decide (0 < r) = true := decide_eq_true (by have : ¬ r ≤ 0 := fun e => h0 (hc.1 e); omega)
    clear hc h0
    have h_1 := h.alloc (EQ s A n c B m d)
    have k_1 := k.alloc (EQ s A n c B m d)
    have ba_1 : Sq ((w).alloc (EQ s A n c B m d)) (w.heap.size) (.bool s) (.slice A n c) (.slice B m d) := by have h_ := Sq.new (w) (.bool s) (.slice A n c) (.slice B m d); exact h_
    have F1 := (Below.refl w.heap.size w).alloc (Nat.le_refl _) (EQ s A n c B m d)
    have h_2 := h_1.alloc (EQ t A' n' c' B' m' d')
    have k_2 := k_1.alloc (EQ t A' n' c' B' m' d')
    have ba_2 := ba_1.alloc (EQ t A' n' c' B' m' d')
    have bb_2 : Sq (((w).alloc (EQ s A n c B m d)).alloc (EQ t A' n' c' B' m' d')) (w.heap.size + 1) (.bool t) (.slice A' n' c') (.slice B' m' d') := by have h_ := Sq.new ((w).alloc (EQ s A n c B m d)) (.bool t) (.slice A' n' c') (.slice B' m' d'); simp only [World.size_alloc] at h_; exact h_
    have F2 := F1.alloc F1.size (EQ t A' n' c' B' m' d')
    have h_3 := h_2.alloc EQ0
    have k_3 := k_2.alloc EQ0
    have ba_3 := ba_2.alloc EQ0
    have bb_3 := bb_2.alloc EQ0
    have br_3 : Sq ((((w).alloc (EQ s A n c B m d)).alloc (EQ t A' n' c' B' m' d')).alloc EQ0) (w.heap.size + 2) (.bool false) (.slice none 0 0) (.slice none 0 0) := by have h_ := Sq.new (((w).alloc (EQ s A n c B m d)).alloc (EQ t A' n' c' B' m' d')) (.bool false) (.slice none 0 0) (.slice none 0 0); simp only [World.size_alloc] at h_; exact h_
    have F3 := F2.alloc F2.size EQ0
    go_enter Try.func59, Try.ntmps59
    go_wp2_with fail
    refine (cmp_q _ _ _ _ _ _ _ _ _ _ _ _ _ _ _ _ r _ HR.out k_3 h_3 hn' hm' hn hm).mono ?_
    rintro e w4 ⟨rfl, b4⟩
    have h_4 := h_3.below b4
    have k_4 := k_3.below b4
    have ba_4 := ba_3.below b4 ba_3.lt
    have bb_4 := bb_3.below b4 bb_3.lt
    have br_4 := br_3.below b4 br_3.lt
    have F4 := below_then F3 (Nat.le_refl _) b4
    have ba_u4 := ba_4.cell0
    have ba_v4 := ba_4.cell1
    have ba_w4 := ba_4.cell2
    have bb_u4 := bb_4.cell0
    have bb_v4 := bb_4.cell1
    have bb_w4 := bb_4.cell2
    have br_u4 := br_4.cell0
    have br_v4 := br_4.cell1
    have br_w4 := br_4.cell2
    have ba_f04 := ba_4.frozen 0
    have ba_f14 := ba_4.frozen 1
    have ba_f24 := ba_4.frozen 2
    have h_5 := h_4.storQ9 ba_4 (.bool t) (.slice A' n' c') (.slice B' m' d')
    have k_5 := k_4.storQ9 ba_4 (.bool t) (.slice A' n' c') (.slice B' m' d')
    have ba_5 := ba_4.stor (u0 := .bool t) (u1 := .slice A' n' c') (u2 := .slice B' m' d')
    have bb_5 := bb_4.past (g' := w.heap.size) (u0 := .bool t) (u1 := .slice A' n' c') (u2 := .slice B' m' d') (by omega)
    have br_5 := br_4.past (g' := w.heap.size) (u0 := .bool t) (u1 := .slice A' n' c') (u2 := .slice B' m' d') (by omega)
    have F5 := below_storQ (u0 := .bool t) (u1 := .slice A' n' c') (u2 := .slice B' m' d') F4 (show w.heap.size ≤ w.heap.size by omega)
    have ba_u5 := ba_5.cell0
    have ba_v5 := ba_5.cell1
    have ba_w5 := ba_5.cell2
    have bb_u5 := bb_5.cell0
    have bb_v5 := bb_5.cell1
    have bb_w5 := bb_5.cell2
    have br_u5 := br_5.cell0
    have br_v5 := br_5.cell1
    have br_w5 := br_5.cell2
    go_wp2_with fail
    refine (canon_q _ _ _ _ _ _ _ _ _ k_5 n3 n4).mono ?_
    rintro e w6 ⟨s6, A6, n6, c6, B6, m6, d6, rfl, y, b6⟩
    have h_6 := h_5.below b6
    have k_6 := k_5.below b6
    have ba_6 := ba_5.below b6 ba_5.lt
    have bb_6 := bb_5.below b6 bb_5.lt
    have br_6 := br_5.below b6 br_5.lt
    have F6 := below_then F5 (Nat.le_refl _) b6
    have ba_u6 := ba_6.cell0
    have ba_v6 := ba_6.cell1
    have ba_w6 := ba_6.cell2
    have bb_u6 := bb_6.cell0
    have bb_v6 := bb_6.cell1
    have bb_w6 := bb_6.cell2
    have br_u6 := br_6.cell0
    have br_v6 := br_6.cell1
    have br_w6 := br_6.cell2
    have br_f06 := br_6.frozen 0
    have br_f16 := br_6.frozen 1
    have br_f26 := br_6.frozen 2
    go_wp2_with fail
    refine bodyPost_ret (v := .agg #[.bool s6, .slice A6 n6 c6, .slice B6 m6 d6]) (by simp [results, Try.results59, go_sem, (br_6.set0 (.bool s6)).cell0, ((br_6.set0 (.bool s6)).set1 (.slice A6 n6 c6)).cell1, (((br_6.set0 (.bool s6)).set1 (.slice A6 n6 c6)).set2 (.slice B6 m6 d6)).cell2]) rfl (gq_end F6 (by omega) br_6 y)
end Go.Proofs.Ytnddhohjfjlaiaa
