/-
  Comparison and sum.
-/
import Derived.Test.YthiapkalmmgliaaDoorEf
namespace Go.Proofs.YthiapkalmmgliaaDoor
open Go.RowKit
set_option linter.unusedVariables false
set_option linter.unusedSimpArgs false

theorem Cz.storI {w : World} {s : Bool} {A : Option Addr} {n c : Nat} {z : Int} (h : Cz w s A n c z) {g : Nat} {s0 : Bool} {B : Option Addr} {l d : Nat} (hs : Sb w g (.bool s0) (.slice B l d)) (u0 u1 : Value) : Cz ((w.setCell ⟨g, 0, none⟩ u0).setCell ⟨g, 1, none⟩ u1) s A n c z := ⟨h.1.storI hs u0 u1, h.2⟩
theorem sz_p2 (n e : Int) : sz ((n : Rat) * p2 e).num = sz n := by
  unfold sz
  rcases Int.lt_trichotomy n 0 with h | h | h
  · have h1 : (n : Rat) * p2 e < 0 := by
      have := p2_lt e (show (n : Rat) < 0 by exact Rat.intCast_lt_intCast.2 h)
      simpa using this
    have h2 : ((n : Rat) * p2 e).num < 0 := by
      have := mt Rat.num_nonneg.1 (Rat.not_le.2 h1)
      omega
    rw [if_neg (by omega), if_pos h2, if_neg (by omega), if_pos h]
  · subst h
    have h1 : ((0 : Int) : Rat) * p2 e = 0 := by simp
    rw [h1]
    rfl
  · have h1 : 0 < (n : Rat) * p2 e := by
      have := p2_lt e (show (0 : Rat) < (n : Rat) by exact Rat.intCast_lt_intCast.2 h)
      simpa using this
    have h2 := Rat.num_nonneg.2 (Rat.le_of_lt h1)
    have h3 : ((n : Rat) * p2 e).num ≠ 0 := fun h3 => by
      rw [Rat.num_eq_zero.1 h3] at h1
      exact absurd h1 (by decide)
    rw [if_neg h3, if_neg (by omega), if_neg (by omega), if_neg (by omega)]
theorem mult_val (s : Bool) (m K : Nat) (e z : Int) (hz : e - z = (K : Int)) : dvl s m e = ((iv s (dg (m * 2 ^ K)) : Int) : Rat) * p2 z := by
  obtain rfl : e = (K : Int) + z := by omega
  unfold dvl iv
  rw [val_dg, p2_add, p2_nat', ← Rat.mul_assoc, ← Rat.intCast_mul]
  congr 2
  cases s <;> simp [Int.natCast_mul, Int.neg_mul]
theorem mult_sub {p q : Rat} {P Q z : Int} (hp : p = (P : Rat) * p2 z) (hq : q = (Q : Rat) * p2 z) : p - q = ((P - Q : Int) : Rat) * p2 z := by
  rw [hp, hq, Rat.intCast_sub]
  grind
theorem mult_add {p q : Rat} {P Q z : Int} (hp : p = (P : Rat) * p2 z) (hq : q = (Q : Rat) * p2 z) : p + q = ((P + Q : Int) : Rat) * p2 z := by
  rw [hp, hq, Rat.intCast_add, Rat.add_mul]
theorem dvl_int (Z z : Int) : dvl (decide (Z < 0)) Z.natAbs z = (Z : Rat) * p2 z := by
  unfold dvl
  congr 2
  by_cases h : Z < 0
  · rw [decide_eq_true h, if_pos rfl]; omega
  · rw [decide_eq_false h, if_neg (by decide)]; omega
theorem Cy.val {w : World} {s : Bool} {A : Option Addr} {n c : Nat} {e : Int} {q : Rat} (h : Cy w s A n c e q) : dvl s (dm q) e = q := by
  rw [h.2.1, h.2.2.1, dvl_of h.2.2.2]
theorem Cy.ny {w : World} {s : Bool} {A : Option Addr} {n c k : Nat} {e : Int} {q : Rat} (h : Cy w s A n c e q) (hn : n ≤ k) : Ny w A n c k (dm q) := ⟨hn, h.1⟩
theorem mult_lt {X K : Nat} (hX : X < pw 3) (hK : K ≤ 400) : X * 2 ^ K < pw 16 := by
  have h : 2 ^ K < pw 13 := two_lt_pw (by omega)
  exact mul_pw hX h
theorem ycmp_g (s : Bool) (A : Option Addr) (n c : Nat) (e : Int) (t : Bool) (B : Option Addr) (m d : Nat) (x : Int) (p q : Rat) (w : World) (r : Int) (hr : sz (p - q).num = r) (h : Cy w s A n c e p) (k : Cy w t B m d x q) (hn : n ≤ 3) (hm : m ≤ 3) (he : -1048576 ≤ e ∧ e ≤ 1048576) (hx : -1048576 ≤ x ∧ x ≤ 1048576) (hd : e - x ≤ 400 ∧ x - e ≤ 400) : Calls Tryd.prog 37 #[.agg #[.bool s, .slice A n c, .int .i64 e], .agg #[.bool t, .slice B m d, .int .i64 x]] w (Asks w (.int .i64 r)) := by
  have hp := h.val
  have hq := k.val
  have lX : dm p < pw 3 := by have := rd_lt h.1 hn; rwa [val_dg] at this
  have lY : dm q < pw 3 := by have := rd_lt k.1 hm; rwa [val_dg] at this
  obtain ⟨z, hz⟩ : ∃ z, min e x = z := ⟨_, rfl⟩
  obtain ⟨K, hK⟩ : ∃ K : Nat, e - z = (K : Int) := ⟨(e - z).toNat, by omega⟩
  obtain ⟨J, hJ⟩ : ∃ J : Nat, x - z = (J : Int) := ⟨(x - z).toNat, by omega⟩
  have hK4 : K ≤ 400 := by omega
  have hJ4 : J ≤ 400 := by omega
  obtain ⟨X, hX⟩ : ∃ X, dm p * 2 ^ K = X := ⟨_, rfl⟩
  obtain ⟨Y, hY⟩ : ∃ Y, dm q * 2 ^ J = Y := ⟨_, rfl⟩
  have hpP := mult_val s (dm p) K e z hK
  have hqQ := mult_val t (dm q) J x z hJ
  rw [hp, hX] at hpP
  rw [hq, hY] at hqQ
  have HX := hide hX
  have HY := hide hY
  have HLX := hide (show X < pw 16 by rw [← hX]; exact mult_lt lX hK4)
  have HLY := hide (show Y < pw 16 by rw [← hY]; exact mult_lt lY hJ4)
  have HK := hide (show e - z = (K : Int) ∧ K ≤ 4000 by omega)
  have HJ := hide (show x - z = (J : Int) ∧ J ≤ 4000 by omega)
  have HE := hide (show (-2000000 ≤ e ∧ e ≤ 2000000) ∧ (-2000000 ≤ x ∧ x ≤ 2000000) by omega)
  have HR := hide (show sz (iv s (dg X) - iv t (dg Y)) = r by rw [← hr, mult_sub hpP hqQ, sz_p2])
  have h1 := h.ny hn
  have k1 := k.ny hm
  have n16 : 16 ≤ 1048576 := by decide
  clear hp hq lX lY hK hJ hK4 hJ4 hX hY hpP hqQ hr hn hm h k he hx hd
  have h := h1
  have k := k1
  clear h1 k1
  have h_1 := h.alloc (EY s A n c e)
  have k_1 := k.alloc (EY s A n c e)
  have ba_1 : Sy ((w).alloc (EY s A n c e)) (w.heap.size) (.bool s) (.slice A n c) (.int .i64 e) := by have h_ := Sy.new (w) (.bool s) (.slice A n c) (.int .i64 e); exact h_
  have F1 := (Below.refl w.heap.size w).alloc (Nat.le_refl _) (EY s A n c e)
  have h_2 := h_1.alloc (EY t B m d x)
  have k_2 := k_1.alloc (EY t B m d x)
  have ba_2 := ba_1.alloc (EY t B m d x)
  have bb_2 : Sy (((w).alloc (EY s A n c e)).alloc (EY t B m d x)) (w.heap.size + 1) (.bool t) (.slice B m d) (.int .i64 x) := by have h_ := Sy.new ((w).alloc (EY s A n c e)) (.bool t) (.slice B m d) (.int .i64 x); simp only [World.size_alloc] at h_; exact h_
  have F2 := F1.alloc F1.size (EY t B m d x)
  go_enter Tryd.func37, Tryd.ntmps37
  have ba_u2 := ba_2.cell0
  have ba_v2 := ba_2.cell1
  have ba_w2 := ba_2.cell2
  have bb_u2 := bb_2.cell0
  have bb_v2 := bb_2.cell1
  have bb_w2 := bb_2.cell2
  go_wp2_with fail
  have h_3 := h_2.drew
  have k_3 := k_2.drew
  have ba_3 := ba_2.drew
  have bb_3 := bb_2.drew
  have F3 := F2.drew
  go_region_held3 (fun w' => w'.cell? ⟨w.heap.size, 0, none⟩ = some (.bool s) ∧ w'.cell? ⟨w.heap.size, 1, none⟩ = some (.slice A n c) ∧ w'.cell? ⟨w.heap.size, 2, none⟩ = some (.int .i64 e) ∧ w'.cell? ⟨w.heap.size + 1, 0, none⟩ = some (.bool t) ∧ w'.cell? ⟨w.heap.size + 1, 1, none⟩ = some (.slice B m d) ∧ w'.cell? ⟨w.heap.size + 1, 2, none⟩ = some (.int .i64 x))
    (first
      | with_reducible exact ⟨ba_6.cell0, ba_6.cell1, ba_6.cell2, bb_6.cell0, bb_6.cell1, bb_6.cell2⟩
      | with_reducible exact ⟨ba_5.cell0, ba_5.cell1, ba_5.cell2, bb_5.cell0, bb_5.cell1, bb_5.cell2⟩
      | with_reducible exact ⟨ba_4.cell0, ba_4.cell1, ba_4.cell2, bb_4.cell0, bb_4.cell1, bb_4.cell2⟩
      | with_reducible exact ⟨ba_3.cell0, ba_3.cell1, ba_3.cell2, bb_3.cell0, bb_3.cell1, bb_3.cell2⟩
      | fail)
    (first
      | (go_at_call 64; (with_reducible refine (multiple_y s _ _ _ e z K 3 16 (dm p) X _ HK.out.1 HK.out.2 HE.out.1 HX.out h_3.nz (by decide) HLX.out (by decide)).mono ?_); rintro e w4 ⟨A4, n4, c4, rfl, p1, b4⟩; have h_4 := h_3.below b4; have k_4 := k_3.below b4; have ba_4 := ba_3.below b4 ba_3.lt; have bb_4 := bb_3.below b4 bb_3.lt; have F4 := below_then F3 (Nat.le_refl _) b4)
      | (go_at_call 64; (with_reducible refine (multiple_y t _ _ _ x z J 3 16 (dm q) Y _ HJ.out.1 HJ.out.2 HE.out.2 HY.out k_4.nz (by decide) HLY.out (by decide)).mono ?_); rintro e w5 ⟨A5, n5, c5, rfl, q1, b5⟩; have h_5 := h_4.below b5; have k_5 := k_4.below b5; have p1_5 := p1.below b5; have ba_5 := ba_4.below b5 ba_4.lt; have bb_5 := bb_4.below b5 bb_4.lt; have F5 := below_then F4 (Nat.le_refl _) b5)
      | (go_at_call 67; (with_reducible refine (cmp_int _ _ _ _ _ _ _ _ _ _ r _ HR.out (p1_5.iz s) (q1.iz t) (Nat.le_trans p1_5.le n16) (Nat.le_trans q1.le n16)).mono ?_); rintro e w6 ⟨rfl, b6⟩; have h_6 := h_5.below b6; have k_6 := k_5.below b6; have p1_6 := p1_5.below b6; have q1_6 := q1.below b6; have ba_6 := ba_5.below b6 ba_5.lt; have bb_6 := bb_5.below b6 bb_5.lt; have F6 := below_then F5 (Nat.le_refl _) b6)
      | fail)
  have ba_u6 := ba_6.cell0
  have ba_v6 := ba_6.cell1
  have ba_w6 := ba_6.cell2
  have bb_u6 := bb_6.cell0
  have bb_v6 := bb_6.cell1
  have bb_w6 := bb_6.cell2
  go_wp2
  go_ret
  exact ⟨rfl, F6⟩
theorem yadd_g (s : Bool) (A : Option Addr) (n c : Nat) (e : Int) (t : Bool) (B : Option Addr) (m d : Nat) (x : Int) (p q : Rat) (w : World) (h : Cy w s A n c e p) (k : Cy w t B m d x q) (hn : n ≤ 3) (hm : m ≤ 3) (he : -1048576 ≤ e ∧ e ≤ 1048576) (hx : -1048576 ≤ x ∧ x ≤ 1048576) (hd : e - x ≤ 400 ∧ x - e ≤ 400) (hr : -1048576 ≤ de (p + q) ∧ de (p + q) ≤ 1048576) (T : Tb w) :
    Calls Tryd.prog 35 #[.agg #[.bool s, .slice A n c, .int .i64 e], .agg #[.bool t, .slice B m d, .int .i64 x]] w (GDE w (p + q) 0) := by
  have hp := h.val
  have hq := k.val
  have lX : dm p < pw 3 := by have := rd_lt h.1 hn; rwa [val_dg] at this
  have lY : dm q < pw 3 := by have := rd_lt k.1 hm; rwa [val_dg] at this
  obtain ⟨z, hz⟩ : ∃ z, min e x = z := ⟨_, rfl⟩
  obtain ⟨K, hK⟩ : ∃ K : Nat, e - z = (K : Int) := ⟨(e - z).toNat, by omega⟩
  obtain ⟨J, hJ⟩ : ∃ J : Nat, x - z = (J : Int) := ⟨(x - z).toNat, by omega⟩
  have hK4 : K ≤ 400 := by omega
  have hJ4 : J ≤ 400 := by omega
  obtain ⟨X, hX⟩ : ∃ X, dm p * 2 ^ K = X := ⟨_, rfl⟩
  obtain ⟨Y, hY⟩ : ∃ Y, dm q * 2 ^ J = Y := ⟨_, rfl⟩
  have hpP := mult_val s (dm p) K e z hK
  have hqQ := mult_val t (dm q) J x z hJ
  rw [hp, hX] at hpP
  rw [hq, hY] at hqQ
  have HX := hide hX
  have HY := hide hY
  have HLX := hide (show X < pw 16 by rw [← hX]; exact mult_lt lX hK4)
  have HLY := hide (show Y < pw 16 by rw [← hY]; exact mult_lt lY hJ4)
  have HK := hide (show e - z = (K : Int) ∧ K ≤ 4000 by omega)
  have HJ := hide (show x - z = (J : Int) ∧ J ≤ 4000 by omega)
  have HE := hide (show (-2000000 ≤ e ∧ e ≤ 2000000) ∧ (-2000000 ≤ x ∧ x ≤ 2000000) by omega)
  obtain ⟨Z, hZ⟩ : ∃ Z, iv s (dg X) + iv t (dg Y) = Z := ⟨_, rfl⟩
  have hsum := mult_add hpP hqQ
  rw [hZ] at hsum
  have HS := hide (show dvl (decide (Z < 0)) Z.natAbs z = p + q by rw [dvl_int, hsum])
  have HZ := hide hZ
  have HR := hide hr
  have HL := hide (show Z.natAbs < pw 17 by
    have a1 := iv_abs s (dg X)
    have a2 := iv_abs t (dg Y)
    rw [val_dg] at a1 a2
    have a3 := HLX.out
    have a4 := HLY.out
    have a5 : pw 17 = 4294967296 * pw 16 := rfl
    omega)
  have HE9 := hide (show -1000000000 ≤ z ∧ z ≤ 1000000000 by omega)
  have h1 := h.ny hn
  have k1 := k.ny hm
  have n16 : 16 ≤ 65536 := by decide
  clear hp hq lX lY hK hJ hK4 hJ4 hX hY hpP hqQ hr hn hm h k he hx hd hZ hsum
  have h := h1
  have k := k1
  clear h1 k1
  have h_1 := h.alloc (EY s A n c e)
  have k_1 := k.alloc (EY s A n c e)
  have T_1 := T.alloc (EY s A n c e)
  have ba_1 : Sy ((w).alloc (EY s A n c e)) (w.heap.size) (.bool s) (.slice A n c) (.int .i64 e) := by have h_ := Sy.new (w) (.bool s) (.slice A n c) (.int .i64 e); exact h_
  have F1 := (Below.refl w.heap.size w).alloc (Nat.le_refl _) (EY s A n c e)
  have h_2 := h_1.alloc (EY t B m d x)
  have k_2 := k_1.alloc (EY t B m d x)
  have T_2 := T_1.alloc (EY t B m d x)
  have ba_2 := ba_1.alloc (EY t B m d x)
  have bb_2 : Sy (((w).alloc (EY s A n c e)).alloc (EY t B m d x)) (w.heap.size + 1) (.bool t) (.slice B m d) (.int .i64 x) := by have h_ := Sy.new ((w).alloc (EY s A n c e)) (.bool t) (.slice B m d) (.int .i64 x); simp only [World.size_alloc] at h_; exact h_
  have F2 := F1.alloc F1.size (EY t B m d x)
  have h_3 := h_2.alloc EY0
  have k_3 := k_2.alloc EY0
  have T_3 := T_2.alloc EY0
  have ba_3 := ba_2.alloc EY0
  have bb_3 := bb_2.alloc EY0
  have br_3 : Sy ((((w).alloc (EY s A n c e)).alloc (EY t B m d x)).alloc EY0) (w.heap.size + 2) (.bool false) (.slice none 0 0) (.int .i64 0) := by have h_ := Sy.new (((w).alloc (EY s A n c e)).alloc (EY t B m d x)) (.bool false) (.slice none 0 0) (.int .i64 0); simp only [World.size_alloc] at h_; exact h_
  have F3 := F2.alloc F2.size EY0
  go_enter Tryd.func35, Tryd.ntmps35
  have ba_u3 := ba_3.cell0
  have ba_v3 := ba_3.cell1
  have ba_w3 := ba_3.cell2
  have bb_u3 := bb_3.cell0
  have bb_v3 := bb_3.cell1
  have bb_w3 := bb_3.cell2
  have br_u3 := br_3.cell0
  have br_v3 := br_3.cell1
  have br_w3 := br_3.cell2
  go_upto_region 2 with fail
  go_cut [7] (fun sx3 wy => ∃ (wx3 : World) (g : Nat) (A5 : Option Addr) (n5 : Nat) (c5 : Nat) (A6 : Option Addr) (n6 : Nat) (c6 : Nat) (s7 : Bool) (A7 : Option Addr) (n7 : Nat) (c7 : Nat), wx3 = wy ∧ sx3 = .pointer (some ⟨g, 0, none⟩) ∧ Sb wx3 g (.bool s7) (.slice A7 n7 c7) ∧ w.heap.size ≤ g ∧ w.heap.size < g ∧ w.heap.size + 1 < g ∧ w.heap.size + 2 < g ∧ Sy wx3 (w.heap.size) (.bool s) (.slice A n c) (.int .i64 e) ∧ Sy wx3 (w.heap.size + 1) (.bool t) (.slice B m d) (.int .i64 x) ∧ Sy wx3 (w.heap.size + 2) (.bool false) (.slice none 0 0) (.int .i64 0) ∧ Tb wx3 ∧ Cz wx3 s7 A7 n7 c7 Z ∧ Below w.heap.size w wx3)
  case first =>
    have h_4 := h_3.drew
    have k_4 := k_3.drew
    have T_4 := T_3.drew
    have ba_4 := ba_3.drew
    have bb_4 := bb_3.drew
    have br_4 := br_3.drew
    have F4 := F3.drew
    have h_z0 := (h_3.alloc E0).drew
    have k_z0 := (k_3.alloc E0).drew
    have T_z0 := (T_3.alloc E0).drew
    have ba_z0 := (ba_3.alloc E0).drew
    have bb_z0 := (bb_3.alloc E0).drew
    have br_z0 := (br_3.alloc E0).drew
    have lz_ba : w.heap.size < w.heap.size + 3 := by omega
    have lz_bb : w.heap.size + 1 < w.heap.size + 3 := by omega
    have lz_br : w.heap.size + 2 < w.heap.size + 3 := by omega
    have gl : w.heap.size ≤ w.heap.size + 3 := by omega
    have F_z0 := (F3.alloc F3.size E0).drew
    have zb_0 : Sb (((((w).alloc (EY s A n c e)).alloc (EY t B m d x)).alloc EY0).alloc E0).drew (w.heap.size + 3) (.bool false) (.slice none 0 0) := by have h_ := Sb.new ((((w).alloc (EY s A n c e)).alloc (EY t B m d x)).alloc EY0) (.bool false) (.slice none 0 0); simp only [World.size_alloc] at h_; exact h_.drew
    go_region_held3 (fun w' => w'.cell? ⟨w.heap.size, 0, none⟩ = some (.bool s) ∧ w'.cell? ⟨w.heap.size, 1, none⟩ = some (.slice A n c) ∧ w'.cell? ⟨w.heap.size, 2, none⟩ = some (.int .i64 e) ∧ w'.cell? ⟨w.heap.size + 1, 0, none⟩ = some (.bool t) ∧ w'.cell? ⟨w.heap.size + 1, 1, none⟩ = some (.slice B m d) ∧ w'.cell? ⟨w.heap.size + 1, 2, none⟩ = some (.int .i64 x) ∧ w'.cell? ⟨w.heap.size + 2, 0, none⟩ = some (.bool false) ∧ w'.cell? ⟨w.heap.size + 2, 1, none⟩ = some (.slice none 0 0) ∧ w'.cell? ⟨w.heap.size + 2, 2, none⟩ = some (.int .i64 0))
      (first
        | with_reducible exact ⟨(ba_7.alloc (EI s7 A7 n7 c7)).cell0, (ba_7.alloc (EI s7 A7 n7 c7)).cell1, (ba_7.alloc (EI s7 A7 n7 c7)).cell2, (bb_7.alloc (EI s7 A7 n7 c7)).cell0, (bb_7.alloc (EI s7 A7 n7 c7)).cell1, (bb_7.alloc (EI s7 A7 n7 c7)).cell2, (br_7.alloc (EI s7 A7 n7 c7)).cell0, (br_7.alloc (EI s7 A7 n7 c7)).cell1, (br_7.alloc (EI s7 A7 n7 c7)).cell2⟩
        | with_reducible exact ⟨(ba_7.pastI (u0 := .bool s7) (u1 := .slice A7 n7 c7) (Nat.ne_of_lt lz_ba)).cell0, (ba_7.pastI (u0 := .bool s7) (u1 := .slice A7 n7 c7) (Nat.ne_of_lt lz_ba)).cell1, (ba_7.pastI (u0 := .bool s7) (u1 := .slice A7 n7 c7) (Nat.ne_of_lt lz_ba)).cell2, (bb_7.pastI (u0 := .bool s7) (u1 := .slice A7 n7 c7) (Nat.ne_of_lt lz_bb)).cell0, (bb_7.pastI (u0 := .bool s7) (u1 := .slice A7 n7 c7) (Nat.ne_of_lt lz_bb)).cell1, (bb_7.pastI (u0 := .bool s7) (u1 := .slice A7 n7 c7) (Nat.ne_of_lt lz_bb)).cell2, (br_7.pastI (u0 := .bool s7) (u1 := .slice A7 n7 c7) (Nat.ne_of_lt lz_br)).cell0, (br_7.pastI (u0 := .bool s7) (u1 := .slice A7 n7 c7) (Nat.ne_of_lt lz_br)).cell1, (br_7.pastI (u0 := .bool s7) (u1 := .slice A7 n7 c7) (Nat.ne_of_lt lz_br)).cell2⟩
        | with_reducible exact ⟨(ba_7.alloc E0).cell0, (ba_7.alloc E0).cell1, (ba_7.alloc E0).cell2, (bb_7.alloc E0).cell0, (bb_7.alloc E0).cell1, (bb_7.alloc E0).cell2, (br_7.alloc E0).cell0, (br_7.alloc E0).cell1, (br_7.alloc E0).cell2⟩
        | with_reducible exact ⟨ba_7.cell0, ba_7.cell1, ba_7.cell2, bb_7.cell0, bb_7.cell1, bb_7.cell2, br_7.cell0, br_7.cell1, br_7.cell2⟩
        | with_reducible exact ⟨ba_6.alloc E0 |>.cell0, ba_6.alloc E0 |>.cell1, ba_6.alloc E0 |>.cell2, bb_6.alloc E0 |>.cell0, bb_6.alloc E0 |>.cell1, bb_6.alloc E0 |>.cell2, br_6.alloc E0 |>.cell0, br_6.alloc E0 |>.cell1, br_6.alloc E0 |>.cell2⟩
        | with_reducible exact ⟨(ba_6.alloc E0).cell0, (ba_6.alloc E0).cell1, (ba_6.alloc E0).cell2, (bb_6.alloc E0).cell0, (bb_6.alloc E0).cell1, (bb_6.alloc E0).cell2, (br_6.alloc E0).cell0, (br_6.alloc E0).cell1, (br_6.alloc E0).cell2⟩
        | with_reducible exact ⟨ba_6.cell0, ba_6.cell1, ba_6.cell2, bb_6.cell0, bb_6.cell1, bb_6.cell2, br_6.cell0, br_6.cell1, br_6.cell2⟩
        | with_reducible exact ⟨ba_5.alloc E0 |>.cell0, ba_5.alloc E0 |>.cell1, ba_5.alloc E0 |>.cell2, bb_5.alloc E0 |>.cell0, bb_5.alloc E0 |>.cell1, bb_5.alloc E0 |>.cell2, br_5.alloc E0 |>.cell0, br_5.alloc E0 |>.cell1, br_5.alloc E0 |>.cell2⟩
        | with_reducible exact ⟨(ba_5.alloc E0).cell0, (ba_5.alloc E0).cell1, (ba_5.alloc E0).cell2, (bb_5.alloc E0).cell0, (bb_5.alloc E0).cell1, (bb_5.alloc E0).cell2, (br_5.alloc E0).cell0, (br_5.alloc E0).cell1, (br_5.alloc E0).cell2⟩
        | with_reducible exact ⟨ba_5.cell0, ba_5.cell1, ba_5.cell2, bb_5.cell0, bb_5.cell1, bb_5.cell2, br_5.cell0, br_5.cell1, br_5.cell2⟩
        | with_reducible exact ⟨ba_z0.cell0, ba_z0.cell1, ba_z0.cell2, bb_z0.cell0, bb_z0.cell1, bb_z0.cell2, br_z0.cell0, br_z0.cell1, br_z0.cell2⟩
        | with_reducible exact ⟨ba_4.cell0, ba_4.cell1, ba_4.cell2, bb_4.cell0, bb_4.cell1, bb_4.cell2, br_4.cell0, br_4.cell1, br_4.cell2⟩
        | fail)
      (first
        | (go_at_call 64; (with_reducible refine (multiple_y s _ _ _ e z K 3 16 (dm p) X _ HK.out.1 HK.out.2 HE.out.1 HX.out h_4.nz (by decide) HLX.out (by decide)).mono ?_); rintro e w5 ⟨A5, n5, c5, rfl, p1, b5⟩; have h_5 := h_4.below b5; have k_5 := k_4.below b5; have T_5 := T_4.below b5; have ba_5 := ba_4.below b5 ba_4.lt; have bb_5 := bb_4.below b5 bb_4.lt; have br_5 := br_4.below b5 br_4.lt; have F5 := below_then F4 (Nat.le_refl _) b5)
        | (go_at_call 64; (with_reducible refine (multiple_y s _ _ _ e z K 3 16 (dm p) X _ HK.out.1 HK.out.2 HE.out.1 HX.out h_z0.nz (by decide) HLX.out (by decide)).mono ?_); rintro e w5 ⟨A5, n5, c5, rfl, p1, b5⟩; have h_5 := h_z0.below b5; have k_5 := k_z0.below b5; have T_5 := T_z0.below b5; have ba_5 := ba_z0.below b5 ba_z0.lt; have bb_5 := bb_z0.below b5 bb_z0.lt; have br_5 := br_z0.below b5 br_z0.lt; have F5 := below_then F_z0 (Nat.le_refl _) b5; have zb_5 := zb_0.below b5 zb_0.lt)
        | (go_at_call 64; (with_reducible refine (multiple_y t _ _ _ x z J 3 16 (dm q) Y _ HJ.out.1 HJ.out.2 HE.out.2 HY.out k_5.nz (by decide) HLY.out (by decide)).mono ?_); rintro e w6 ⟨A6, n6, c6, rfl, q1, b6⟩; have h_6 := h_5.below b6; have k_6 := k_5.below b6; have T_6 := T_5.below b6; have p1_6 := p1.below b6; have ba_6 := ba_5.below b6 ba_5.lt; have bb_6 := bb_5.below b6 bb_5.lt; have br_6 := br_5.below b6 br_5.lt; have F6 := below_then F5 (Nat.le_refl _) b6; have zb_6 := zb_5.below b6 zb_5.lt)
        | (go_at_call 64; (with_reducible refine (multiple_y t _ _ _ x z J 3 16 (dm q) Y _ HJ.out.1 HJ.out.2 HE.out.2 HY.out k_5.nz (by decide) HLY.out (by decide)).mono ?_); rintro e w6 ⟨A6, n6, c6, rfl, q1, b6⟩; have h_6 := h_5.below b6; have k_6 := k_5.below b6; have T_6 := T_5.below b6; have p1_6 := p1.below b6; have ba_6 := ba_5.below b6 ba_5.lt; have bb_6 := bb_5.below b6 bb_5.lt; have br_6 := br_5.below b6 br_5.lt; have F6 := below_then F5 (Nat.le_refl _) b6)
        | (have h_z6 := h_5.alloc E0; have k_z6 := k_5.alloc E0; have T_z6 := T_5.alloc E0; have p1_z6 := p1.alloc E0; have ba_z6 := ba_5.alloc E0; have bb_z6 := bb_5.alloc E0; have br_z6 := br_5.alloc E0; have lz_ba := ba_5.lt; have lz_bb := bb_5.lt; have lz_br := br_5.lt; have gl := F5.size; have F_z6 := F5.alloc F5.size E0; have zb_5 := Sb.new (w5) (.bool false) (.slice none 0 0); go_at_call 64; (with_reducible refine (multiple_y t _ _ _ x z J 3 16 (dm q) Y _ HJ.out.1 HJ.out.2 HE.out.2 HY.out k_z6.nz (by decide) HLY.out (by decide)).mono ?_); rintro e w6 ⟨A6, n6, c6, rfl, q1, b6⟩; have h_6 := h_z6.below b6; have k_6 := k_z6.below b6; have T_6 := T_z6.below b6; have p1_6 := p1_z6.below b6; have ba_6 := ba_z6.below b6 ba_z6.lt; have bb_6 := bb_z6.below b6 bb_z6.lt; have br_6 := br_z6.below b6 br_z6.lt; have F6 := below_then F_z6 (Nat.le_refl _) b6; have zb_6 := zb_5.below b6 zb_5.lt)
        | (go_at_call 63; (with_reducible refine (add_int _ _ _ _ _ _ _ _ _ _ Z _ HZ.out (p1_6.iz s) (q1.iz t) (Nat.le_trans p1_6.le n16) (Nat.le_trans q1.le n16)).mono ?_); rintro e w7 ⟨s7, A7, n7, c7, rfl, zz, b7⟩; have h_7 := h_6.below b7; have k_7 := k_6.below b7; have T_7 := T_6.below b7; have p1_7 := p1_6.below b7; have q1_7 := q1.below b7; have ba_7 := ba_6.below b7 ba_6.lt; have bb_7 := bb_6.below b7 bb_6.lt; have br_7 := br_6.below b7 br_6.lt; have F7 := below_then F6 (Nat.le_refl _) b7; have zb_7 := zb_6.below b7 zb_6.lt; have zk7_0 := zb_7.cell0; have zk7_1 := zb_7.cell1; have zf7_0 := zb_7.frozen 0; have zf7_1 := zb_7.frozen 1)
        | (go_at_call 63; (with_reducible refine (add_int _ _ _ _ _ _ _ _ _ _ Z _ HZ.out (p1_6.iz s) (q1.iz t) (Nat.le_trans p1_6.le n16) (Nat.le_trans q1.le n16)).mono ?_); rintro e w7 ⟨s7, A7, n7, c7, rfl, zz, b7⟩; have h_7 := h_6.below b7; have k_7 := k_6.below b7; have T_7 := T_6.below b7; have p1_7 := p1_6.below b7; have q1_7 := q1.below b7; have ba_7 := ba_6.below b7 ba_6.lt; have bb_7 := bb_6.below b7 bb_6.lt; have br_7 := br_6.below b7 br_6.lt; have F7 := below_then F6 (Nat.le_refl _) b7)
        | (have h_z7 := h_6.alloc E0; have k_z7 := k_6.alloc E0; have T_z7 := T_6.alloc E0; have p1_z7 := p1_6.alloc E0; have q1_z7 := q1.alloc E0; have ba_z7 := ba_6.alloc E0; have bb_z7 := bb_6.alloc E0; have br_z7 := br_6.alloc E0; have lz_ba := ba_6.lt; have lz_bb := bb_6.lt; have lz_br := br_6.lt; have gl := F6.size; have F_z7 := F6.alloc F6.size E0; have zb_6 := Sb.new (w6) (.bool false) (.slice none 0 0); go_at_call 63; (with_reducible refine (add_int _ _ _ _ _ _ _ _ _ _ Z _ HZ.out (p1_z7.iz s) (q1_z7.iz t) (Nat.le_trans p1_z7.le n16) (Nat.le_trans q1_z7.le n16)).mono ?_); rintro e w7 ⟨s7, A7, n7, c7, rfl, zz, b7⟩; have h_7 := h_z7.below b7; have k_7 := k_z7.below b7; have T_7 := T_z7.below b7; have p1_7 := p1_z7.below b7; have q1_7 := q1_z7.below b7; have ba_7 := ba_z7.below b7 ba_z7.lt; have bb_7 := bb_z7.below b7 bb_z7.lt; have br_7 := br_z7.below b7 br_z7.lt; have F7 := below_then F_z7 (Nat.le_refl _) b7; have zb_7 := zb_6.below b7 zb_6.lt; have zk7_0 := zb_7.cell0; have zk7_1 := zb_7.cell1; have zf7_0 := zb_7.frozen 0; have zf7_1 := zb_7.frozen 1)
        | fail)
    all_goals (go_wp2_with fail; go_meet; first | exact ⟨_, _, A5, n5, c5, A6, n6, c6, s7, A7, n7, c7, rfl, rfl, zb_7.stor, gl, lz_ba, lz_bb, lz_br, ba_7.pastI (Nat.ne_of_lt lz_ba), bb_7.pastI (Nat.ne_of_lt lz_bb), br_7.pastI (Nat.ne_of_lt lz_br), T_7.storI zb_7 (.bool s7) (.slice A7 n7 c7), zz.storI zb_7 (.bool s7) (.slice A7 n7 c7), below_stor F7 gl⟩ | exact ⟨_, _, A5, n5, c5, A6, n6, c6, s7, A7, n7, c7, rfl, rfl, Sb.new w7 (.bool s7) (.slice A7 n7 c7), F7.size, ba_7.lt, bb_7.lt, br_7.lt, ba_7.alloc (EI s7 A7 n7 c7), bb_7.alloc (EI s7 A7 n7 c7), br_7.alloc (EI s7 A7 n7 c7), T_7.alloc (EI s7 A7 n7 c7), zz.alloc (EI s7 A7 n7 c7), F7.alloc F7.size _⟩ | fail)
  case rest =>
    obtain ⟨wx3, g8, A5, n5, c5, A6, n6, c6, s7, A7, n7, c7, rfl, rfl, bs_8, gl_8, lt_bs_ba, lt_bs_bb, lt_bs_br, ba_8, bb_8, br_8, T_8, zz_8, F8⟩ := hcut
    have ba_u8 := ba_8.cell0
    have ba_v8 := ba_8.cell1
    have ba_w8 := ba_8.cell2
    have bb_u8 := bb_8.cell0
    have bb_v8 := bb_8.cell1
    have bb_w8 := bb_8.cell2
    have br_u8 := br_8.cell0
    have br_v8 := br_8.cell1
    have br_w8 := br_8.cell2
    have bs_u8 := bs_8.cell0
    have bs_v8 := bs_8.cell1
    have hzn := (zz_8.ny HL.out).nz
    have hzs := zz_8.2
    go_wp2_with fail
    refine (chk_q _ _ _ _ 17 Z.natAbs z (p + q) _ hzn (by decide) (hzs ▸ HS.out) HE9.out HR.out T_8).mono ?_
    rintro e w9 ⟨s9, A9, n9, c9, x9, rfl, y, b9⟩
    have T_9 := T_8.below b9
    have zz_9 := zz_8.below b9
    have hzn_9 := hzn.below b9
    have ba_9 := ba_8.below b9 ba_8.lt
    have bb_9 := bb_8.below b9 bb_8.lt
    have br_9 := br_8.below b9 br_8.lt
    have bs_9 := bs_8.below b9 bs_8.lt
    have F9 := below_then F8 (Nat.le_refl _) b9
    have ba_u9 := ba_9.cell0
    have ba_v9 := ba_9.cell1
    have ba_w9 := ba_9.cell2
    have bb_u9 := bb_9.cell0
    have bb_v9 := bb_9.cell1
    have bb_w9 := bb_9.cell2
    have br_u9 := br_9.cell0
    have br_v9 := br_9.cell1
    have br_w9 := br_9.cell2
    have bs_u9 := bs_9.cell0
    have bs_v9 := bs_9.cell1
    have br_f09 := br_9.frozen 0
    have br_f19 := br_9.frozen 1
    have br_f29 := br_9.frozen 2
    go_wp2_with fail
    refine bodyPost_ret (v := .tuple #[.agg #[.bool s9, .slice A9 n9 c9, .int .i64 x9], .int .i64 0]) (by simp [results, Tryd.results35, go_sem, (br_9.set0 (.bool s9)).cell0, ((br_9.set0 (.bool s9)).set1 (.slice A9 n9 c9)).cell1, (((br_9.set0 (.bool s9)).set1 (.slice A9 n9 c9)).set2 (.int .i64 x9)).cell2]) rfl (gde_end 0 F9 (by omega) br_9 y)
theorem yadd_x (s : Bool) (A : Option Addr) (n c : Nat) (e : Int) (t : Bool) (B : Option Addr) (m d : Nat) (x : Int) (p q : Rat) (w : World) (h : Cy w s A n c e p) (k : Cy w t B m d x q) (hn : n ≤ 3) (hm : m ≤ 3) (he : -1048576 ≤ e ∧ e ≤ 1048576) (hx : -1048576 ≤ x ∧ x ≤ 1048576) (hd : e - x ≤ 400 ∧ x - e ≤ 400) (h00 : p + q ≠ 0) (hr : de (p + q) < -1048576 ∨ 1048576 < de (p + q)) (T : Tb w) :
    Calls Tryd.prog 35 #[.agg #[.bool s, .slice A n c, .int .i64 e], .agg #[.bool t, .slice B m d, .int .i64 x]] w (GDE w 0 2) := by
  have hp := h.val
  have hq := k.val
  have lX : dm p < pw 3 := by have := rd_lt h.1 hn; rwa [val_dg] at this
  have lY : dm q < pw 3 := by have := rd_lt k.1 hm; rwa [val_dg] at this
  obtain ⟨z, hz⟩ : ∃ z, min e x = z := ⟨_, rfl⟩
  obtain ⟨K, hK⟩ : ∃ K : Nat, e - z = (K : Int) := ⟨(e - z).toNat, by omega⟩
  obtain ⟨J, hJ⟩ : ∃ J : Nat, x - z = (J : Int) := ⟨(x - z).toNat, by omega⟩
  have hK4 : K ≤ 400 := by omega
  have hJ4 : J ≤ 400 := by omega
  obtain ⟨X, hX⟩ : ∃ X, dm p * 2 ^ K = X := ⟨_, rfl⟩
  obtain ⟨Y, hY⟩ : ∃ Y, dm q * 2 ^ J = Y := ⟨_, rfl⟩
  have hpP := mult_val s (dm p) K e z hK
  have hqQ := mult_val t (dm q) J x z hJ
  rw [hp, hX] at hpP
  rw [hq, hY] at hqQ
  have HX := hide hX
  have HY := hide hY
  have HLX := hide (show X < pw 16 by rw [← hX]; exact mult_lt lX hK4)
  have HLY := hide (show Y < pw 16 by rw [← hY]; exact mult_lt lY hJ4)
  have HK := hide (show e - z = (K : Int) ∧ K ≤ 4000 by omega)
  have HJ := hide (show x - z = (J : Int) ∧ J ≤ 4000 by omega)
  have HE := hide (show (-2000000 ≤ e ∧ e ≤ 2000000) ∧ (-2000000 ≤ x ∧ x ≤ 2000000) by omega)
  obtain ⟨Z, hZ⟩ : ∃ Z, iv s (dg X) + iv t (dg Y) = Z := ⟨_, rfl⟩
  have hsum := mult_add hpP hqQ
  rw [hZ] at hsum
  have HS := hide (show dvl (decide (Z < 0)) Z.natAbs z = p + q by rw [dvl_int, hsum])
  have HZ := hide hZ
  have HR := hide hr
  have H00 := hide h00
  have HL := hide (show Z.natAbs < pw 17 by
    have a1 := iv_abs s (dg X)
    have a2 := iv_abs t (dg Y)
    rw [val_dg] at a1 a2
    have a3 := HLX.out
    have a4 := HLY.out
    have a5 : pw 17 = 4294967296 * pw 16 := rfl
    omega)
  have HE9 := hide (show -1000000000 ≤ z ∧ z ≤ 1000000000 by omega)
  have h1 := h.ny hn
  have k1 := k.ny hm
  have n16 : 16 ≤ 65536 := by decide
  clear hp hq lX lY hK hJ hK4 hJ4 hX hY hpP hqQ hr hn hm h k he hx hd hZ hsum h00
  have h := h1
  have k := k1
  clear h1 k1
  have h_1 := h.alloc (EY s A n c e)
  have k_1 := k.alloc (EY s A n c e)
  have T_1 := T.alloc (EY s A n c e)
  have ba_1 : Sy ((w).alloc (EY s A n c e)) (w.heap.size) (.bool s) (.slice A n c) (.int .i64 e) := by have h_ := Sy.new (w) (.bool s) (.slice A n c) (.int .i64 e); exact h_
  have F1 := (Below.refl w.heap.size w).alloc (Nat.le_refl _) (EY s A n c e)
  have h_2 := h_1.alloc (EY t B m d x)
  have k_2 := k_1.alloc (EY t B m d x)
  have T_2 := T_1.alloc (EY t B m d x)
  have ba_2 := ba_1.alloc (EY t B m d x)
  have bb_2 : Sy (((w).alloc (EY s A n c e)).alloc (EY t B m d x)) (w.heap.size + 1) (.bool t) (.slice B m d) (.int .i64 x) := by have h_ := Sy.new ((w).alloc (EY s A n c e)) (.bool t) (.slice B m d) (.int .i64 x); simp only [World.size_alloc] at h_; exact h_
  have F2 := F1.alloc F1.size (EY t B m d x)
  have h_3 := h_2.alloc EY0
  have k_3 := k_2.alloc EY0
  have T_3 := T_2.alloc EY0
  have ba_3 := ba_2.alloc EY0
  have bb_3 := bb_2.alloc EY0
  have br_3 : Sy ((((w).alloc (EY s A n c e)).alloc (EY t B m d x)).alloc EY0) (w.heap.size + 2) (.bool false) (.slice none 0 0) (.int .i64 0) := by have h_ := Sy.new (((w).alloc (EY s A n c e)).alloc (EY t B m d x)) (.bool false) (.slice none 0 0) (.int .i64 0); simp only [World.size_alloc] at h_; exact h_
  have F3 := F2.alloc F2.size EY0
  go_enter Tryd.func35, Tryd.ntmps35
  have ba_u3 := ba_3.cell0
  have ba_v3 := ba_3.cell1
  have ba_w3 := ba_3.cell2
  have bb_u3 := bb_3.cell0
  have bb_v3 := bb_3.cell1
  have bb_w3 := bb_3.cell2
  have br_u3 := br_3.cell0
  have br_v3 := br_3.cell1
  have br_w3 := br_3.cell2
  go_upto_region 2 with fail
  go_cut [7] (fun sx3 wy => ∃ (wx3 : World) (g : Nat) (A5 : Option Addr) (n5 : Nat) (c5 : Nat) (A6 : Option Addr) (n6 : Nat) (c6 : Nat) (s7 : Bool) (A7 : Option Addr) (n7 : Nat) (c7 : Nat), wx3 = wy ∧ sx3 = .pointer (some ⟨g, 0, none⟩) ∧ Sb wx3 g (.bool s7) (.slice A7 n7 c7) ∧ w.heap.size ≤ g ∧ w.heap.size < g ∧ w.heap.size + 1 < g ∧ w.heap.size + 2 < g ∧ Sy wx3 (w.heap.size) (.bool s) (.slice A n c) (.int .i64 e) ∧ Sy wx3 (w.heap.size + 1) (.bool t) (.slice B m d) (.int .i64 x) ∧ Sy wx3 (w.heap.size + 2) (.bool false) (.slice none 0 0) (.int .i64 0) ∧ Tb wx3 ∧ Cz wx3 s7 A7 n7 c7 Z ∧ Below w.heap.size w wx3)
  case first =>
    have h_4 := h_3.drew
    have k_4 := k_3.drew
    have T_4 := T_3.drew
    have ba_4 := ba_3.drew
    have bb_4 := bb_3.drew
    have br_4 := br_3.drew
    have F4 := F3.drew
    have h_z0 := (h_3.alloc E0).drew
    have k_z0 := (k_3.alloc E0).drew
    have T_z0 := (T_3.alloc E0).drew
    have ba_z0 := (ba_3.alloc E0).drew
    have bb_z0 := (bb_3.alloc E0).drew
    have br_z0 := (br_3.alloc E0).drew
    have lz_ba : w.heap.size < w.heap.size + 3 := by omega
    have lz_bb : w.heap.size + 1 < w.heap.size + 3 := by omega
    have lz_br : w.heap.size + 2 < w.heap.size + 3 := by omega
    have gl : w.heap.size ≤ w.heap.size + 3 := by omega
    have F_z0 := (F3.alloc F3.size E0).drew
    have zb_0 : Sb (((((w).alloc (EY s A n c e)).alloc (EY t B m d x)).alloc EY0).alloc E0).drew (w.heap.size + 3) (.bool false) (.slice none 0 0) := by have h_ := Sb.new ((((w).alloc (EY s A n c e)).alloc (EY t B m d x)).alloc EY0) (.bool false) (.slice none 0 0); simp only [World.size_alloc] at h_; exact h_.drew
    go_region_held3 (fun w' => w'.cell? ⟨w.heap.size, 0, none⟩ = some (.bool s) ∧ w'.cell? ⟨w.heap.size, 1, none⟩ = some (.slice A n c) ∧ w'.cell? ⟨w.heap.size, 2, none⟩ = some (.int .i64 e) ∧ w'.cell? ⟨w.heap.size + 1, 0, none⟩ = some (.bool t) ∧ w'.cell? ⟨w.heap.size + 1, 1, none⟩ = some (.slice B m d) ∧ w'.cell? ⟨w.heap.size + 1, 2, none⟩ = some (.int .i64 x) ∧ w'.cell? ⟨w.heap.size + 2, 0, none⟩ = some (.bool false) ∧ w'.cell? ⟨w.heap.size + 2, 1, none⟩ = some (.slice none 0 0) ∧ w'.cell? ⟨w.heap.size + 2, 2, none⟩ = some (.int .i64 0))
      (first
        | with_reducible exact ⟨(ba_7.alloc (EI s7 A7 n7 c7)).cell0, (ba_7.alloc (EI s7 A7 n7 c7)).cell1, (ba_7.alloc (EI s7 A7 n7 c7)).cell2, (bb_7.alloc (EI s7 A7 n7 c7)).cell0, (bb_7.alloc (EI s7 A7 n7 c7)).cell1, (bb_7.alloc (EI s7 A7 n7 c7)).cell2, (br_7.alloc (EI s7 A7 n7 c7)).cell0, (br_7.alloc (EI s7 A7 n7 c7)).cell1, (br_7.alloc (EI s7 A7 n7 c7)).cell2⟩
        | with_reducible exact ⟨(ba_7.pastI (u0 := .bool s7) (u1 := .slice A7 n7 c7) (Nat.ne_of_lt lz_ba)).cell0, (ba_7.pastI (u0 := .bool s7) (u1 := .slice A7 n7 c7) (Nat.ne_of_lt lz_ba)).cell1, (ba_7.pastI (u0 := .bool s7) (u1 := .slice A7 n7 c7) (Nat.ne_of_lt lz_ba)).cell2, (bb_7.pastI (u0 := .bool s7) (u1 := .slice A7 n7 c7) (Nat.ne_of_lt lz_bb)).cell0, (bb_7.pastI (u0 := .bool s7) (u1 := .slice A7 n7 c7) (Nat.ne_of_lt lz_bb)).cell1, (bb_7.pastI (u0 := .bool s7) (u1 := .slice A7 n7 c7) (Nat.ne_of_lt lz_bb)).cell2, (br_7.pastI (u0 := .bool s7) (u1 := .slice A7 n7 c7) (Nat.ne_of_lt lz_br)).cell0, (br_7.pastI (u0 := .bool s7) (u1 := .slice A7 n7 c7) (Nat.ne_of_lt lz_br)).cell1, (br_7.pastI (u0 := .bool s7) (u1 := .slice A7 n7 c7) (Nat.ne_of_lt lz_br)).cell2⟩
        | with_reducible exact ⟨(ba_7.alloc E0).cell0, (ba_7.alloc E0).cell1, (ba_7.alloc E0).cell2, (bb_7.alloc E0).cell0, (bb_7.alloc E0).cell1, (bb_7.alloc E0).cell2, (br_7.alloc E0).cell0, (br_7.alloc E0).cell1, (br_7.alloc E0).cell2⟩
        | with_reducible exact ⟨ba_7.cell0, ba_7.cell1, ba_7.cell2, bb_7.cell0, bb_7.cell1, bb_7.cell2, br_7.cell0, br_7.cell1, br_7.cell2⟩
        | with_reducible exact ⟨ba_6.alloc E0 |>.cell0, ba_6.alloc E0 |>.cell1, ba_6.alloc E0 |>.cell2, bb_6.alloc E0 |>.cell0, bb_6.alloc E0 |>.cell1, bb_6.alloc E0 |>.cell2, br_6.alloc E0 |>.cell0, br_6.alloc E0 |>.cell1, br_6.alloc E0 |>.cell2⟩
        | with_reducible exact ⟨(ba_6.alloc E0).cell0, (ba_6.alloc E0).cell1, (ba_6.alloc E0).cell2, (bb_6.alloc E0).cell0, (bb_6.alloc E0).cell1, (bb_6.alloc E0).cell2, (br_6.alloc E0).cell0, (br_6.alloc E0).cell1, (br_6.alloc E0).cell2⟩
        | with_reducible exact ⟨ba_6.cell0, ba_6.cell1, ba_6.cell2, bb_6.cell0, bb_6.cell1, bb_6.cell2, br_6.cell0, br_6.cell1, br_6.cell2⟩
        | with_reducible exact ⟨ba_5.alloc E0 |>.cell0, ba_5.alloc E0 |>.cell1, ba_5.alloc E0 |>.cell2, bb_5.alloc E0 |>.cell0, bb_5.alloc E0 |>.cell1, bb_5.alloc E0 |>.cell2, br_5.alloc E0 |>.cell0, br_5.alloc E0 |>.cell1, br_5.alloc E0 |>.cell2⟩
        | with_reducible exact ⟨(ba_5.alloc E0).cell0, (ba_5.alloc E0).cell1, (ba_5.alloc E0).cell2, (bb_5.alloc E0).cell0, (bb_5.alloc E0).cell1, (bb_5.alloc E0).cell2, (br_5.alloc E0).cell0, (br_5.alloc E0).cell1, (br_5.alloc E0).cell2⟩
        | with_reducible exact ⟨ba_5.cell0, ba_5.cell1, ba_5.cell2, bb_5.cell0, bb_5.cell1, bb_5.cell2, br_5.cell0, br_5.cell1, br_5.cell2⟩
        | with_reducible exact ⟨ba_z0.cell0, ba_z0.cell1, ba_z0.cell2, bb_z0.cell0, bb_z0.cell1, bb_z0.cell2, br_z0.cell0, br_z0.cell1, br_z0.cell2⟩
        | with_reducible exact ⟨ba_4.cell0, ba_4.cell1, ba_4.cell2, bb_4.cell0, bb_4.cell1, bb_4.cell2, br_4.cell0, br_4.cell1, br_4.cell2⟩
        | fail)
      (first
        | (go_at_call 64; (with_reducible refine (multiple_y s _ _ _ e z K 3 16 (dm p) X _ HK.out.1 HK.out.2 HE.out.1 HX.out h_4.nz (by decide) HLX.out (by decide)).mono ?_); rintro e w5 ⟨A5, n5, c5, rfl, p1, b5⟩; have h_5 := h_4.below b5; have k_5 := k_4.below b5; have T_5 := T_4.below b5; have ba_5 := ba_4.below b5 ba_4.lt; have bb_5 := bb_4.below b5 bb_4.lt; have br_5 := br_4.below b5 br_4.lt; have F5 := below_then F4 (Nat.le_refl _) b5)
        | (go_at_call 64; (with_reducible refine (multiple_y s _ _ _ e z K 3 16 (dm p) X _ HK.out.1 HK.out.2 HE.out.1 HX.out h_z0.nz (by decide) HLX.out (by decide)).mono ?_); rintro e w5 ⟨A5, n5, c5, rfl, p1, b5⟩; have h_5 := h_z0.below b5; have k_5 := k_z0.below b5; have T_5 := T_z0.below b5; have ba_5 := ba_z0.below b5 ba_z0.lt; have bb_5 := bb_z0.below b5 bb_z0.lt; have br_5 := br_z0.below b5 br_z0.lt; have F5 := below_then F_z0 (Nat.le_refl _) b5; have zb_5 := zb_0.below b5 zb_0.lt)
        | (go_at_call 64; (with_reducible refine (multiple_y t _ _ _ x z J 3 16 (dm q) Y _ HJ.out.1 HJ.out.2 HE.out.2 HY.out k_5.nz (by decide) HLY.out (by decide)).mono ?_); rintro e w6 ⟨A6, n6, c6, rfl, q1, b6⟩; have h_6 := h_5.below b6; have k_6 := k_5.below b6; have T_6 := T_5.below b6; have p1_6 := p1.below b6; have ba_6 := ba_5.below b6 ba_5.lt; have bb_6 := bb_5.below b6 bb_5.lt; have br_6 := br_5.below b6 br_5.lt; have F6 := below_then F5 (Nat.le_refl _) b6; have zb_6 := zb_5.below b6 zb_5.lt)
        | (go_at_call 64; (with_reducible refine (multiple_y t _ _ _ x z J 3 16 (dm q) Y _ HJ.out.1 HJ.out.2 HE.out.2 HY.out k_5.nz (by decide) HLY.out (by decide)).mono ?_); rintro e w6 ⟨A6, n6, c6, rfl, q1, b6⟩; have h_6 := h_5.below b6; have k_6 := k_5.below b6; have T_6 := T_5.below b6; have p1_6 := p1.below b6; have ba_6 := ba_5.below b6 ba_5.lt; have bb_6 := bb_5.below b6 bb_5.lt; have br_6 := br_5.below b6 br_5.lt; have F6 := below_then F5 (Nat.le_refl _) b6)
        | (have h_z6 := h_5.alloc E0; have k_z6 := k_5.alloc E0; have T_z6 := T_5.alloc E0; have p1_z6 := p1.alloc E0; have ba_z6 := ba_5.alloc E0; have bb_z6 := bb_5.alloc E0; have br_z6 := br_5.alloc E0; have lz_ba := ba_5.lt; have lz_bb := bb_5.lt; have lz_br := br_5.lt; have gl := F5.size; have F_z6 := F5.alloc F5.size E0; have zb_5 := Sb.new (w5) (.bool false) (.slice none 0 0); go_at_call 64; (with_reducible refine (multiple_y t _ _ _ x z J 3 16 (dm q) Y _ HJ.out.1 HJ.out.2 HE.out.2 HY.out k_z6.nz (by decide) HLY.out (by decide)).mono ?_); rintro e w6 ⟨A6, n6, c6, rfl, q1, b6⟩; have h_6 := h_z6.below b6; have k_6 := k_z6.below b6; have T_6 := T_z6.below b6; have p1_6 := p1_z6.below b6; have ba_6 := ba_z6.below b6 ba_z6.lt; have bb_6 := bb_z6.below b6 bb_z6.lt; have br_6 := br_z6.below b6 br_z6.lt; have F6 := below_then F_z6 (Nat.le_refl _) b6; have zb_6 := zb_5.below b6 zb_5.lt)
        | (go_at_call 63; (with_reducible refine (add_int _ _ _ _ _ _ _ _ _ _ Z _ HZ.out (p1_6.iz s) (q1.iz t) (Nat.le_trans p1_6.le n16) (Nat.le_trans q1.le n16)).mono ?_); rintro e w7 ⟨s7, A7, n7, c7, rfl, zz, b7⟩; have h_7 := h_6.below b7; have k_7 := k_6.below b7; have T_7 := T_6.below b7; have p1_7 := p1_6.below b7; have q1_7 := q1.below b7; have ba_7 := ba_6.below b7 ba_6.lt; have bb_7 := bb_6.below b7 bb_6.lt; have br_7 := br_6.below b7 br_6.lt; have F7 := below_then F6 (Nat.le_refl _) b7; have zb_7 := zb_6.below b7 zb_6.lt; have zk7_0 := zb_7.cell0; have zk7_1 := zb_7.cell1; have zf7_0 := zb_7.frozen 0; have zf7_1 := zb_7.frozen 1)
        | (go_at_call 63; (with_reducible refine (add_int _ _ _ _ _ _ _ _ _ _ Z _ HZ.out (p1_6.iz s) (q1.iz t) (Nat.le_trans p1_6.le n16) (Nat.le_trans q1.le n16)).mono ?_); rintro e w7 ⟨s7, A7, n7, c7, rfl, zz, b7⟩; have h_7 := h_6.below b7; have k_7 := k_6.below b7; have T_7 := T_6.below b7; have p1_7 := p1_6.below b7; have q1_7 := q1.below b7; have ba_7 := ba_6.below b7 ba_6.lt; have bb_7 := bb_6.below b7 bb_6.lt; have br_7 := br_6.below b7 br_6.lt; have F7 := below_then F6 (Nat.le_refl _) b7)
        | (have h_z7 := h_6.alloc E0; have k_z7 := k_6.alloc E0; have T_z7 := T_6.alloc E0; have p1_z7 := p1_6.alloc E0; have q1_z7 := q1.alloc E0; have ba_z7 := ba_6.alloc E0; have bb_z7 := bb_6.alloc E0; have br_z7 := br_6.alloc E0; have lz_ba := ba_6.lt; have lz_bb := bb_6.lt; have lz_br := br_6.lt; have gl := F6.size; have F_z7 := F6.alloc F6.size E0; have zb_6 := Sb.new (w6) (.bool false) (.slice none 0 0); go_at_call 63; (with_reducible refine (add_int _ _ _ _ _ _ _ _ _ _ Z _ HZ.out (p1_z7.iz s) (q1_z7.iz t) (Nat.le_trans p1_z7.le n16) (Nat.le_trans q1_z7.le n16)).mono ?_); rintro e w7 ⟨s7, A7, n7, c7, rfl, zz, b7⟩; have h_7 := h_z7.below b7; have k_7 := k_z7.below b7; have T_7 := T_z7.below b7; have p1_7 := p1_z7.below b7; have q1_7 := q1_z7.below b7; have ba_7 := ba_z7.below b7 ba_z7.lt; have bb_7 := bb_z7.below b7 bb_z7.lt; have br_7 := br_z7.below b7 br_z7.lt; have F7 := below_then F_z7 (Nat.le_refl _) b7; have zb_7 := zb_6.below b7 zb_6.lt; have zk7_0 := zb_7.cell0; have zk7_1 := zb_7.cell1; have zf7_0 := zb_7.frozen 0; have zf7_1 := zb_7.frozen 1)
        | fail)
    all_goals (go_wp2_with fail; go_meet; first | exact ⟨_, _, A5, n5, c5, A6, n6, c6, s7, A7, n7, c7, rfl, rfl, zb_7.stor, gl, lz_ba, lz_bb, lz_br, ba_7.pastI (Nat.ne_of_lt lz_ba), bb_7.pastI (Nat.ne_of_lt lz_bb), br_7.pastI (Nat.ne_of_lt lz_br), T_7.storI zb_7 (.bool s7) (.slice A7 n7 c7), zz.storI zb_7 (.bool s7) (.slice A7 n7 c7), below_stor F7 gl⟩ | exact ⟨_, _, A5, n5, c5, A6, n6, c6, s7, A7, n7, c7, rfl, rfl, Sb.new w7 (.bool s7) (.slice A7 n7 c7), F7.size, ba_7.lt, bb_7.lt, br_7.lt, ba_7.alloc (EI s7 A7 n7 c7), bb_7.alloc (EI s7 A7 n7 c7), br_7.alloc (EI s7 A7 n7 c7), T_7.alloc (EI s7 A7 n7 c7), zz.alloc (EI s7 A7 n7 c7), F7.alloc F7.size _⟩ | fail)
  case rest =>
    obtain ⟨wx3, g8, A5, n5, c5, A6, n6, c6, s7, A7, n7, c7, rfl, rfl, bs_8, gl_8, lt_bs_ba, lt_bs_bb, lt_bs_br, ba_8, bb_8, br_8, T_8, zz_8, F8⟩ := hcut
    have ba_u8 := ba_8.cell0
    have ba_v8 := ba_8.cell1
    have ba_w8 := ba_8.cell2
    have bb_u8 := bb_8.cell0
    have bb_v8 := bb_8.cell1
    have bb_w8 := bb_8.cell2
    have br_u8 := br_8.cell0
    have br_v8 := br_8.cell1
    have br_w8 := br_8.cell2
    have bs_u8 := bs_8.cell0
    have bs_v8 := bs_8.cell1
    have hzn := (zz_8.ny HL.out).nz
    have hzs := zz_8.2
    go_wp2_with fail
    refine (chk_bad _ _ _ _ 17 Z.natAbs z (p + q) _ hzn (by decide) (hzs ▸ HS.out) HE9.out H00.out HR.out T_8).mono ?_
    rintro e w9 ⟨s9, A9, n9, c9, x9, rfl, y, b9⟩
    have T_9 := T_8.below b9
    have zz_9 := zz_8.below b9
    have hzn_9 := hzn.below b9
    have ba_9 := ba_8.below b9 ba_8.lt
    have bb_9 := bb_8.below b9 bb_8.lt
    have br_9 := br_8.below b9 br_8.lt
    have bs_9 := bs_8.below b9 bs_8.lt
    have F9 := below_then F8 (Nat.le_refl _) b9
    have ba_u9 := ba_9.cell0
    have ba_v9 := ba_9.cell1
    have ba_w9 := ba_9.cell2
    have bb_u9 := bb_9.cell0
    have bb_v9 := bb_9.cell1
    have bb_w9 := bb_9.cell2
    have br_u9 := br_9.cell0
    have br_v9 := br_9.cell1
    have br_w9 := br_9.cell2
    have bs_u9 := bs_9.cell0
    have bs_v9 := bs_9.cell1
    have br_f09 := br_9.frozen 0
    have br_f19 := br_9.frozen 1
    have br_f29 := br_9.frozen 2
    go_wp2_with fail
    refine bodyPost_ret (v := .tuple #[.agg #[.bool s9, .slice A9 n9 c9, .int .i64 x9], .int .i64 2]) (by simp [results, Tryd.results35, go_sem, (br_9.set0 (.bool s9)).cell0, ((br_9.set0 (.bool s9)).set1 (.slice A9 n9 c9)).cell1, (((br_9.set0 (.bool s9)).set1 (.slice A9 n9 c9)).set2 (.int .i64 x9)).cell2]) rfl (gde_end 2 F9 (by omega) br_9 y)
end Go.Proofs.YthiapkalmmgliaaDoor
