/-
  The program's units.
-/
import Derived.Test.YtjpchbcenbjibaaGreatDoorPu
import Derived.Deep.DeepCutAuto
import Derived.Deep.CutBlock
import Derived.Deep.RegionHeld3
namespace Go.Proofs.YtjpchbcenbjibaaGreatDoor
open Go.RowKit
set_option linter.unusedVariables false
set_option linter.unusedSimpArgs false

theorem Nz.storI {w : World} {A : Option Addr} {n c k X : Nat} (h : Nz w A n c k X) {g : Nat} {s0 : Bool} {B : Option Addr} {l d : Nat} (hs : Sb w g (.bool s0) (.slice B l d)) (u0 u1 : Value) : Nz ((w.setCell ⟨g, 0, none⟩ u0).setCell ⟨g, 1, none⟩ u1) A n c k X := ⟨h.1, h.2.elim fun xs hx => ⟨xs, hx.1.storI hs u0 u1, hx.2⟩⟩
theorem Cz.storI {w : World} {s : Bool} {A : Option Addr} {n c : Nat} {z : Int} (h : Cz w s A n c z) {g : Nat} {s0 : Bool} {B : Option Addr} {l d : Nat} (hs : Sb w g (.bool s0) (.slice B l d)) (u0 u1 : Value) : Cz ((w.setCell ⟨g, 0, none⟩ u0).setCell ⟨g, 1, none⟩ u1) s A n c z := ⟨h.1.storI hs u0 u1, h.2⟩
theorem gm_end {w w2 : World} {g k X : Nat} {s s0 : Bool} {A A0 : Option Addr} {n c n0 c0 : Nat} (hB : Below w.heap.size w w2) (hg : w.heap.size ≤ g) (hs : Sb w2 g (.bool s0) (.slice A0 n0 c0)) (hc : Ny w2 A n c k X) :
    GM w s k X (.returned (.agg #[.bool s, .slice A n c])) ((w2.setCell ⟨g, 0, none⟩ (.bool s)).setCell ⟨g, 1, none⟩ (.slice A n c)) :=
  ⟨A, n, c, rfl, hc.far hs _ _, below_stor hB hg⟩
theorem cmp_T (A B : Option Addr) (n m c d k l X Y : Nat) (r : Int) (w : World) (hr : sg X Y = r) (h : Nz w A n c k X) (h2 : Nz w B m d l Y) (hk : k ≤ 1048576) (hl : l ≤ 1048576) :
    Calls Tryz.prog 47 #[.slice A n c, .slice B m d] w (Asks w (.int .i64 r)) := by
  obtain ⟨h1, xs, hx, ex⟩ := h
  obtain ⟨k1, ys, hy, ey⟩ := h2
  subst ex ey
  refine (cmp_calls A B n m c d xs ys w r hx hy (by omega) (by omega) hr).mono ?_
  rintro e w' ⟨rfl, q, rfl⟩
  exact ⟨rfl, below_drewN (Below.refl _ _) q⟩
theorem sg_ge {X Y : Nat} (h : Y ≤ X) : ∃ r, sg X Y = r ∧ 0 ≤ r := ⟨_, rfl, by unfold sg; rw [if_neg (by omega)]; split <;> omega⟩
set_option maxHeartbeats 1000000 in
theorem units_up (s : Bool) (A : Option Addr) (n c : Nat) (B : Option Addr) (m d : Nat) (q : Rat) (K p X D Nn Q R L : Nat) (w : World) (hX : q.num.natAbs = X) (hD : q.den = D) (hN : X * 10 ^ p = Nn) (hQ : Nn / D = Q) (hR : Nn % D = R) (hL : (dg q.den).length = L) (hc : D ≤ R + R) (sg' : Bool) (hsg : decide (q.num < 0) = sg') (h : Cq w s A n c B m d q) (hs : Qs K q) (hK : K ≤ 1000) (hK1 : 1 ≤ K) (hp : p ≤ 4000) :
    Calls Tryz.prog 21 #[.agg #[.bool s, .slice A n c, .slice B m d], .int .i64 (p : Int)] w (GM w sg' (K + p + 2) (Q + 1)) := by
  have hn : n ≤ 16384 := by have := h.ln hs.1; omega
  have hm : m ≤ 16384 := by have := h.ld hs.2; omega
  have hK6 : K ≤ 16384 := by omega
  have hD0 : 0 < D := by rw [← hD]; exact q.den_pos
  have hX1 : X < pw K := by rw [← hX]; exact hs.1
  have hD1 : D < pw K := by rw [← hD]; exact hs.2
  have hqd := hs.2
  have HX := hide hX
  have HD := hide hD
  have HN := hide hN
  have HQ := hide hQ
  have HR := hide hR
  have HL := hide hL
  have HSG := hide hsg
  clear hsg hs hX hD hN hQ hR
  obtain ⟨r, hr, hr0⟩ := sg_ge hc
  have d0 : decide (0 ≤ r) = true := decide_eq_true hr0
  have HRR := hide hr
  clear hr
  have h_1 := h.alloc (EQ s A n c B m d)
  have bx_1 : Sq ((w).alloc (EQ s A n c B m d)) (w.heap.size) (.bool s) (.slice A n c) (.slice B m d) := by have h_ := Sq.new (w) (.bool s) (.slice A n c) (.slice B m d); exact h_
  have F1 := (Below.refl w.heap.size w).alloc (Nat.le_refl _) (EQ s A n c B m d)
  have h_2 := h_1.alloc E0
  have bx_2 := bx_1.alloc E0
  have br_2 : Sb (((w).alloc (EQ s A n c B m d)).alloc E0) (w.heap.size + 1) (.bool false) (.slice none 0 0) := by have h_ := Sb.new ((w).alloc (EQ s A n c B m d)) (.bool false) (.slice none 0 0); simp only [World.size_alloc] at h_; exact h_
  have F2 := F1.alloc F1.size E0
  go_enter Tryz.func21, Tryz.ntmps21
  go_upto_region 1 with fail
  go_cut [5, 6] (fun sx2 sd wy => ∃ (wx2 : World) (g : Nat) (s4 : Bool) (A4 : Option Addr) (n4 : Nat) (c4 : Nat) (A5 : Option Addr) (c5 : Nat), wx2 = wy ∧ sx2 = .pointer (some ⟨g, 0, none⟩) ∧ sd = .slice A5 L c5 ∧ Sb wx2 g (.bool s4) (.slice A4 n4 c4) ∧ w.heap.size ≤ g ∧ w.heap.size < g ∧ w.heap.size + 1 < g ∧ Sq wx2 (w.heap.size) (.bool s) (.slice A n c) (.slice B m d) ∧ Sb wx2 (w.heap.size + 1) (.bool false) (.slice none 0 0) ∧ Cz wx2 s4 A4 n4 c4 q.num ∧ Rd wx2 A5 L c5 (dg q.den) ∧ Below w.heap.size w wx2)
  case first =>
    have h_3 := h_2.drew
    have bx_3 := bx_2.drew
    have br_3 := br_2.drew
    have F3 := F2.drew
    have h_z0 := (h_2.alloc E0).drew
    have bx_z0 := (bx_2.alloc E0).drew
    have br_z0 := (br_2.alloc E0).drew
    have lz_bx : w.heap.size < w.heap.size + 2 := by omega
    have lz_br : w.heap.size + 1 < w.heap.size + 2 := by omega
    have gl : w.heap.size ≤ w.heap.size + 2 := by omega
    have F_z0 := (F2.alloc F2.size E0).drew
    have zb_0 : Sb ((((w).alloc (EQ s A n c B m d)).alloc E0).alloc E0).drew (w.heap.size + 2) (.bool false) (.slice none 0 0) := by have h_ := Sb.new (((w).alloc (EQ s A n c B m d)).alloc E0) (.bool false) (.slice none 0 0); simp only [World.size_alloc] at h_; exact h_.drew
    go_region_held3 (fun w' => w'.cell? ⟨w.heap.size, 0, none⟩ = some (.bool s) ∧ w'.cell? ⟨w.heap.size, 1, none⟩ = some (.slice A n c) ∧ w'.cell? ⟨w.heap.size, 2, none⟩ = some (.slice B m d) ∧ w'.cell? ⟨w.heap.size + 1, 0, none⟩ = some (.bool false) ∧ w'.cell? ⟨w.heap.size + 1, 1, none⟩ = some (.slice none 0 0))
      (first
        | with_reducible exact ⟨(bx_5.alloc (EI s4 A4 n4 c4)).cell0, (bx_5.alloc (EI s4 A4 n4 c4)).cell1, (bx_5.alloc (EI s4 A4 n4 c4)).cell2, (br_5.alloc (EI s4 A4 n4 c4)).cell0, (br_5.alloc (EI s4 A4 n4 c4)).cell1⟩
        | with_reducible exact ⟨(bx_5.pastI (u0 := .bool s4) (u1 := .slice A4 n4 c4) (Nat.ne_of_lt lz_bx)).cell0, (bx_5.pastI (u0 := .bool s4) (u1 := .slice A4 n4 c4) (Nat.ne_of_lt lz_bx)).cell1, (bx_5.pastI (u0 := .bool s4) (u1 := .slice A4 n4 c4) (Nat.ne_of_lt lz_bx)).cell2, (br_5.past (u0 := .bool s4) (u1 := .slice A4 n4 c4) (Nat.ne_of_lt lz_br)).cell0, (br_5.past (u0 := .bool s4) (u1 := .slice A4 n4 c4) (Nat.ne_of_lt lz_br)).cell1⟩
        | with_reducible exact ⟨(bx_5.alloc E0).cell0, (bx_5.alloc E0).cell1, (bx_5.alloc E0).cell2, (br_5.alloc E0).cell0, (br_5.alloc E0).cell1⟩
        | with_reducible exact ⟨bx_5.cell0, bx_5.cell1, bx_5.cell2, br_5.cell0, br_5.cell1⟩
        | with_reducible exact ⟨bx_4.alloc E0 |>.cell0, bx_4.alloc E0 |>.cell1, bx_4.alloc E0 |>.cell2, br_4.alloc E0 |>.cell0, br_4.alloc E0 |>.cell1⟩
        | with_reducible exact ⟨(bx_4.alloc E0).cell0, (bx_4.alloc E0).cell1, (bx_4.alloc E0).cell2, (br_4.alloc E0).cell0, (br_4.alloc E0).cell1⟩
        | with_reducible exact ⟨bx_4.cell0, bx_4.cell1, bx_4.cell2, br_4.cell0, br_4.cell1⟩
        | with_reducible exact ⟨bx_z0.cell0, bx_z0.cell1, bx_z0.cell2, br_z0.cell0, br_z0.cell1⟩
        | with_reducible exact ⟨bx_3.cell0, bx_3.cell1, bx_3.cell2, br_3.cell0, br_3.cell1⟩
        | fail)
      (first
        | (go_at_call 42; (with_reducible refine (num_q _ _ _ _ _ _ _ q _ h_3.iq hn hm).mono ?_); rintro e w4 ⟨s4, A4, n4, c4, rfl, nu, b4⟩; have h_4 := h_3.below b4; have bx_4 := bx_3.below b4 bx_3.lt; have br_4 := br_3.below b4 br_3.lt; have F4 := below_then F3 (Nat.le_refl _) b4)
        | (go_at_call 42; (with_reducible refine (num_q _ _ _ _ _ _ _ q _ h_z0.iq hn hm).mono ?_); rintro e w4 ⟨s4, A4, n4, c4, rfl, nu, b4⟩; have h_4 := h_z0.below b4; have bx_4 := bx_z0.below b4 bx_z0.lt; have br_4 := br_z0.below b4 br_z0.lt; have F4 := below_then F_z0 (Nat.le_refl _) b4; have zb_4 := zb_0.below b4 zb_0.lt)
        | (go_at_call 43; (with_reducible refine (den_q _ _ _ _ _ _ _ q L _ HL.out h_4.iq hn hm K hK6 hqd).mono ?_); rintro e w5 ⟨A5, c5, rfl, de, b5⟩; have h_5 := h_4.below b5; have nu_5 := nu.below b5; have bx_5 := bx_4.below b5 bx_4.lt; have br_5 := br_4.below b5 br_4.lt; have F5 := below_then F4 (Nat.le_refl _) b5; have zb_5 := zb_4.below b5 zb_4.lt; have zk5_0 := zb_5.cell0; have zk5_1 := zb_5.cell1; have zf5_0 := zb_5.frozen 0; have zf5_1 := zb_5.frozen 1)
        | (go_at_call 43; (with_reducible refine (den_q _ _ _ _ _ _ _ q L _ HL.out h_4.iq hn hm K hK6 hqd).mono ?_); rintro e w5 ⟨A5, c5, rfl, de, b5⟩; have h_5 := h_4.below b5; have nu_5 := nu.below b5; have bx_5 := bx_4.below b5 bx_4.lt; have br_5 := br_4.below b5 br_4.lt; have F5 := below_then F4 (Nat.le_refl _) b5)
        | (have h_z5 := h_4.alloc E0; have nu_z5 := nu.alloc E0; have bx_z5 := bx_4.alloc E0; have br_z5 := br_4.alloc E0; have lz_bx := bx_4.lt; have lz_br := br_4.lt; have gl := F4.size; have F_z5 := F4.alloc F4.size E0; have zb_4 := Sb.new (w4) (.bool false) (.slice none 0 0); go_at_call 43; (with_reducible refine (den_q _ _ _ _ _ _ _ q L _ HL.out h_z5.iq hn hm K hK6 hqd).mono ?_); rintro e w5 ⟨A5, c5, rfl, de, b5⟩; have h_5 := h_z5.below b5; have nu_5 := nu_z5.below b5; have bx_5 := bx_z5.below b5 bx_z5.lt; have br_5 := br_z5.below b5 br_z5.lt; have F5 := below_then F_z5 (Nat.le_refl _) b5; have zb_5 := zb_4.below b5 zb_4.lt; have zk5_0 := zb_5.cell0; have zk5_1 := zb_5.cell1; have zf5_0 := zb_5.frozen 0; have zf5_1 := zb_5.frozen 1)
        | fail)
    all_goals (go_wp2_with fail; go_meet; first | exact ⟨_, _, s4, A4, n4, c4, A5, c5, rfl, rfl, rfl, zb_5.stor, gl, lz_bx, lz_br, bx_5.pastI (Nat.ne_of_lt lz_bx), br_5.past (Nat.ne_of_lt lz_br), nu_5.storI zb_5 (.bool s4) (.slice A4 n4 c4), de.storI zb_5 (.bool s4) (.slice A4 n4 c4), below_stor F5 gl⟩ | exact ⟨_, _, s4, A4, n4, c4, A5, c5, rfl, rfl, rfl, Sb.new w5 (.bool s4) (.slice A4 n4 c4), F5.size, bx_5.lt, br_5.lt, bx_5.alloc (EI s4 A4 n4 c4), br_5.alloc (EI s4 A4 n4 c4), nu_5.alloc (EI s4 A4 n4 c4), de.alloc (EI s4 A4 n4 c4), F5.alloc F5.size _⟩ | fail)
  case rest =>
    obtain ⟨wx2, g6, s4, A4, n4, c4, A5, c5, rfl, rfl, rfl, bn_6, gl_6, lt_bn_bx, lt_bn_br, bx_6, br_6, nu_6, de_6, F6⟩ := hcut
    obtain rfl : s4 = sg' := by rw [nu_6.2]; exact HSG.out
    have hx := Cz.ny (k := K) nu_6 (by rw [HX.out]; exact hX1)
    have hy := Rd.ny (k := K) de_6 (by rw [HD.out]; exact hD1)
    rw [HX.out] at hx
    rw [HD.out] at hy
    have hp5 : p ≤ 5000 := by omega
    have kp6 : K + p + 1 ≤ 65536 := by omega
    have kp7 : K + p + 1 ≤ 1048576 := by omega
    have kp8 : K + (p + 1) ≤ K + p + 1 := by omega
    have k65 : K ≤ 65536 := by omega
    have bx_u6 := bx_6.cell0
    have bx_v6 := bx_6.cell1
    have bx_w6 := bx_6.cell2
    have br_u6 := br_6.cell0
    have br_v6 := br_6.cell1
    have bn_u6 := bn_6.cell0
    have bn_v6 := bn_6.cell1
    go_wp2_with fail
    have hx_7 := hx.drew
    have hy_7 := hy.drew
    have bx_7 := bx_6.drew
    have br_7 := br_6.drew
    have bn_7 := bn_6.drew
    have F7 := F6.drew
    go_region_held3 (fun w' => w'.cell? ⟨w.heap.size, 0, none⟩ = some (.bool s) ∧ w'.cell? ⟨w.heap.size, 1, none⟩ = some (.slice A n c) ∧ w'.cell? ⟨w.heap.size, 2, none⟩ = some (.slice B m d) ∧ w'.cell? ⟨w.heap.size + 1, 0, none⟩ = some (.bool false) ∧ w'.cell? ⟨w.heap.size + 1, 1, none⟩ = some (.slice none 0 0) ∧ w'.cell? ⟨g6, 0, none⟩ = some (.bool s4) ∧ w'.cell? ⟨g6, 1, none⟩ = some (.slice A4 n4 c4))
      (first
        | with_reducible exact ⟨bx_10.cell0, bx_10.cell1, bx_10.cell2, br_10.cell0, br_10.cell1, bn_10.cell0, bn_10.cell1⟩
        | with_reducible exact ⟨bx_9.cell0, bx_9.cell1, bx_9.cell2, br_9.cell0, br_9.cell1, bn_9.cell0, bn_9.cell1⟩
        | with_reducible exact ⟨bx_8.cell0, bx_8.cell1, bx_8.cell2, br_8.cell0, br_8.cell1, bn_8.cell0, bn_8.cell1⟩
        | with_reducible exact ⟨bx_7.cell0, bx_7.cell1, bx_7.cell2, br_7.cell0, br_7.cell1, bn_7.cell0, bn_7.cell1⟩
        | fail)
      (first
        | (go_at_call 46; (with_reducible refine (powT_calls p _ _ hp5 rfl).mono ?_); rintro e w8 ⟨A8, n8, c8, rfl, tp, b8⟩; have hx_8 := hx_7.below b8; have hy_8 := hy_7.below b8; have bx_8 := bx_7.below b8 bx_7.lt; have br_8 := br_7.below b8 br_7.lt; have bn_8 := bn_7.below b8 bn_7.lt; have F8 := below_then F7 (Nat.le_refl _) b8)
        | (go_at_call 45; (with_reducible refine (mul_n _ _ _ _ _ _ K (p + 1) (K + p + 1) X (10 ^ p) Nn _ HN.out hx_8.nz tp.nz kp8 kp7).mono ?_); rintro e w9 ⟨A9, n9, c9, rfl, pr, b9⟩; have hx_9 := hx_8.below b9; have hy_9 := hy_8.below b9; have tp_9 := tp.below b9; have bx_9 := bx_8.below b9 bx_8.lt; have br_9 := br_8.below b9 br_8.lt; have bn_9 := bn_8.below b9 bn_8.lt; have F9 := below_then F8 (Nat.le_refl _) b9)
        | (go_at_call 44; (with_reducible refine (div_n _ _ _ _ _ _ (K + p + 1) K Nn D Q R _ HQ.out HR.out hD0 pr.nz hy_9.nz kp6 k65).mono ?_); rintro e w10 ⟨A10, n10, c10, B10, m10, d10, rfl, qu, re, b10⟩; have hx_10 := hx_9.below b10; have hy_10 := hy_9.below b10; have tp_10 := tp_9.below b10; have pr_10 := pr.below b10; have bx_10 := bx_9.below b10 bx_9.lt; have br_10 := br_9.below b10 br_9.lt; have bn_10 := bn_9.below b10 bn_9.lt; have F10 := below_then F9 (Nat.le_refl _) b10)
        | fail)
    have bx_u10 := bx_10.cell0
    have bx_v10 := bx_10.cell1
    have bx_w10 := bx_10.cell2
    have br_u10 := br_10.cell0
    have br_v10 := br_10.cell1
    have bn_u10 := bn_10.cell0
    have bn_v10 := bn_10.cell1
    go_wp2_with fail
    refine (add_n _ _ _ _ _ _ K (K + 1) R R (R + R) _ rfl re.nz re.nz (Nat.le_refl _) (by omega)).mono ?_
    rintro e w11 ⟨A11, n11, c11, rfl, su, b11⟩
    have hy_11 := hy_10.below b11
    have qu_11 := qu.below b11
    have re_11 := re.below b11
    have bx_11 := bx_10.below b11 bx_10.lt
    have br_11 := br_10.below b11 br_10.lt
    have bn_11 := bn_10.below b11 bn_10.lt
    have F11 := below_then F10 (Nat.le_refl _) b11
    have bx_u11 := bx_11.cell0
    have bx_v11 := bx_11.cell1
    have bx_w11 := bx_11.cell2
    have br_u11 := br_11.cell0
    have br_v11 := br_11.cell1
    have bn_u11 := bn_11.cell0
    have bn_v11 := bn_11.cell1
    go_wp2_with fail
    refine (cmp_T _ _ _ _ _ _ (K + 1) K (R + R) D r _ HRR.out su.nz hy_11.nz (by omega) (by omega)).mono ?_
    rintro e w12 ⟨rfl, b12⟩
    have hy_12 := hy_11.below b12
    have qu_12 := qu_11.below b12
    have su_12 := su.below b12
    have bx_12 := bx_11.below b12 bx_11.lt
    have br_12 := br_11.below b12 br_11.lt
    have bn_12 := bn_11.below b12 bn_11.lt
    have F12 := below_then F11 (Nat.le_refl _) b12
    have bx_u12 := bx_12.cell0
    have bx_v12 := bx_12.cell1
    have bx_w12 := bx_12.cell2
    have br_u12 := br_12.cell0
    have br_v12 := br_12.cell1
    have bn_u12 := bn_12.cell0
    have bn_v12 := bn_12.cell1
    go_wp2_with fail
    refine (one_n _ 1 (Nat.le_refl _)).mono ?_
    rintro e w13 ⟨A13, n13, c13, rfl, on, b13⟩
    have qu_13 := qu_12.below b13
    have bx_13 := bx_12.below b13 bx_12.lt
    have br_13 := br_12.below b13 br_12.lt
    have bn_13 := bn_12.below b13 bn_12.lt
    have F13 := below_then F12 (Nat.le_refl _) b13
    have bx_u13 := bx_13.cell0
    have bx_v13 := bx_13.cell1
    have bx_w13 := bx_13.cell2
    have br_u13 := br_13.cell0
    have br_v13 := br_13.cell1
    have bn_u13 := bn_13.cell0
    have bn_v13 := bn_13.cell1
    go_wp2_with fail
    refine (add_n _ _ _ _ _ _ (K + p + 1) (K + p + 2) Q 1 (Q + 1) _ rfl qu_13.nz (on.nz.mono (by omega)) (Nat.le_refl _) (by omega)).mono ?_
    rintro e w14 ⟨A14, n14, c14, rfl, fi, b14⟩
    have qu_14 := qu_13.below b14
    have on_14 := on.below b14
    have bx_14 := bx_13.below b14 bx_13.lt
    have br_14 := br_13.below b14 br_13.lt
    have bn_14 := bn_13.below b14 bn_13.lt
    have F14 := below_then F13 (Nat.le_refl _) b14
    have bx_u14 := bx_14.cell0
    have bx_v14 := bx_14.cell1
    have bx_w14 := bx_14.cell2
    have br_u14 := br_14.cell0
    have br_v14 := br_14.cell1
    have bn_u14 := bn_14.cell0
    have bn_v14 := bn_14.cell1
    have br_f014 := br_14.frozen 0
    have br_f114 := br_14.frozen 1
    go_wp2_with fail
    refine bodyPost_ret (v := .agg #[.bool s4, .slice A14 n14 c14]) (by simp [results, Tryz.results21, go_sem, (br_14.set0 (.bool s4)).cell0, ((br_14.set0 (.bool s4)).set1 (.slice A14 n14 c14)).cell1]) rfl (gm_end F14 (by omega) br_14 fi)
set_option maxHeartbeats 1000000 in
theorem units_no (s : Bool) (A : Option Addr) (n c : Nat) (B : Option Addr) (m d : Nat) (q : Rat) (K p X D Nn Q R L : Nat) (w : World) (hX : q.num.natAbs = X) (hD : q.den = D) (hN : X * 10 ^ p = Nn) (hQ : Nn / D = Q) (hR : Nn % D = R) (hL : (dg q.den).length = L) (hc : R + R < D) (sg' : Bool) (hsg : decide (q.num < 0) = sg') (h : Cq w s A n c B m d q) (hs : Qs K q) (hK : K ≤ 1000) (hK1 : 1 ≤ K) (hp : p ≤ 4000) :
    Calls Tryz.prog 21 #[.agg #[.bool s, .slice A n c, .slice B m d], .int .i64 (p : Int)] w (GM w sg' (K + p + 2) (Q)) := by
  have hn : n ≤ 16384 := by have := h.ln hs.1; omega
  have hm : m ≤ 16384 := by have := h.ld hs.2; omega
  have hK6 : K ≤ 16384 := by omega
  have hD0 : 0 < D := by rw [← hD]; exact q.den_pos
  have hX1 : X < pw K := by rw [← hX]; exact hs.1
  have hD1 : D < pw K := by rw [← hD]; exact hs.2
  have hqd := hs.2
  have HX := hide hX
  have HD := hide hD
  have HN := hide hN
  have HQ := hide hQ
  have HR := hide hR
  have HL := hide hL
  have HSG := hide hsg
  clear hsg hs hX hD hN hQ hR
  obtain ⟨r, hr, hr0⟩ : ∃ r, sg (R + R) D = r ∧ r < 0 := ⟨-1, sg_lt hc, by omega⟩
  have d0 : decide (0 ≤ r) = false := decide_eq_false (by omega)
  have HRR := hide hr
  clear hr
  have h_1 := h.alloc (EQ s A n c B m d)
  have bx_1 : Sq ((w).alloc (EQ s A n c B m d)) (w.heap.size) (.bool s) (.slice A n c) (.slice B m d) := by have h_ := Sq.new (w) (.bool s) (.slice A n c) (.slice B m d); exact h_
  have F1 := (Below.refl w.heap.size w).alloc (Nat.le_refl _) (EQ s A n c B m d)
  have h_2 := h_1.alloc E0
  have bx_2 := bx_1.alloc E0
  have br_2 : Sb (((w).alloc (EQ s A n c B m d)).alloc E0) (w.heap.size + 1) (.bool false) (.slice none 0 0) := by have h_ := Sb.new ((w).alloc (EQ s A n c B m d)) (.bool false) (.slice none 0 0); simp only [World.size_alloc] at h_; exact h_
  have F2 := F1.alloc F1.size E0
  go_enter Tryz.func21, Tryz.ntmps21
  go_upto_region 1 with fail
  go_cut [5, 6] (fun sx2 sd wy => ∃ (wx2 : World) (g : Nat) (s4 : Bool) (A4 : Option Addr) (n4 : Nat) (c4 : Nat) (A5 : Option Addr) (c5 : Nat), wx2 = wy ∧ sx2 = .pointer (some ⟨g, 0, none⟩) ∧ sd = .slice A5 L c5 ∧ Sb wx2 g (.bool s4) (.slice A4 n4 c4) ∧ w.heap.size ≤ g ∧ w.heap.size < g ∧ w.heap.size + 1 < g ∧ Sq wx2 (w.heap.size) (.bool s) (.slice A n c) (.slice B m d) ∧ Sb wx2 (w.heap.size + 1) (.bool false) (.slice none 0 0) ∧ Cz wx2 s4 A4 n4 c4 q.num ∧ Rd wx2 A5 L c5 (dg q.den) ∧ Below w.heap.size w wx2)
  case first =>
    have h_3 := h_2.drew
    have bx_3 := bx_2.drew
    have br_3 := br_2.drew
    have F3 := F2.drew
    have h_z0 := (h_2.alloc E0).drew
    have bx_z0 := (bx_2.alloc E0).drew
    have br_z0 := (br_2.alloc E0).drew
    have lz_bx : w.heap.size < w.heap.size + 2 := by omega
    have lz_br : w.heap.size + 1 < w.heap.size + 2 := by omega
    have gl : w.heap.size ≤ w.heap.size + 2 := by omega
    have F_z0 := (F2.alloc F2.size E0).drew
    have zb_0 : Sb ((((w).alloc (EQ s A n c B m d)).alloc E0).alloc E0).drew (w.heap.size + 2) (.bool false) (.slice none 0 0) := by have h_ := Sb.new (((w).alloc (EQ s A n c B m d)).alloc E0) (.bool false) (.slice none 0 0); simp only [World.size_alloc] at h_; exact h_.drew
    go_region_held3 (fun w' => w'.cell? ⟨w.heap.size, 0, none⟩ = some (.bool s) ∧ w'.cell? ⟨w.heap.size, 1, none⟩ = some (.slice A n c) ∧ w'.cell? ⟨w.heap.size, 2, none⟩ = some (.slice B m d) ∧ w'.cell? ⟨w.heap.size + 1, 0, none⟩ = some (.bool false) ∧ w'.cell? ⟨w.heap.size + 1, 1, none⟩ = some (.slice none 0 0))
      (first
        | with_reducible exact ⟨(bx_5.alloc (EI s4 A4 n4 c4)).cell0, (bx_5.alloc (EI s4 A4 n4 c4)).cell1, (bx_5.alloc (EI s4 A4 n4 c4)).cell2, (br_5.alloc (EI s4 A4 n4 c4)).cell0, (br_5.alloc (EI s4 A4 n4 c4)).cell1⟩
        | with_reducible exact ⟨(bx_5.pastI (u0 := .bool s4) (u1 := .slice A4 n4 c4) (Nat.ne_of_lt lz_bx)).cell0, (bx_5.pastI (u0 := .bool s4) (u1 := .slice A4 n4 c4) (Nat.ne_of_lt lz_bx)).cell1, (bx_5.pastI (u0 := .bool s4) (u1 := .slice A4 n4 c4) (Nat.ne_of_lt lz_bx)).cell2, (br_5.past (u0 := .bool s4) (u1 := .slice A4 n4 c4) (Nat.ne_of_lt lz_br)).cell0, (br_5.past (u0 := .bool s4) (u1 := .slice A4 n4 c4) (Nat.ne_of_lt lz_br)).cell1⟩
        | with_reducible exact ⟨(bx_5.alloc E0).cell0, (bx_5.alloc E0).cell1, (bx_5.alloc E0).cell2, (br_5.alloc E0).cell0, (br_5.alloc E0).cell1⟩
        | with_reducible exact ⟨bx_5.cell0, bx_5.cell1, bx_5.cell2, br_5.cell0, br_5.cell1⟩
        | with_reducible exact ⟨bx_4.alloc E0 |>.cell0, bx_4.alloc E0 |>.cell1, bx_4.alloc E0 |>.cell2, br_4.alloc E0 |>.cell0, br_4.alloc E0 |>.cell1⟩
        | with_reducible exact ⟨(bx_4.alloc E0).cell0, (bx_4.alloc E0).cell1, (bx_4.alloc E0).cell2, (br_4.alloc E0).cell0, (br_4.alloc E0).cell1⟩
        | with_reducible exact ⟨bx_4.cell0, bx_4.cell1, bx_4.cell2, br_4.cell0, br_4.cell1⟩
        | with_reducible exact ⟨bx_z0.cell0, bx_z0.cell1, bx_z0.cell2, br_z0.cell0, br_z0.cell1⟩
        | with_reducible exact ⟨bx_3.cell0, bx_3.cell1, bx_3.cell2, br_3.cell0, br_3.cell1⟩
        | fail)
      (first
        | (go_at_call 42; (with_reducible refine (num_q _ _ _ _ _ _ _ q _ h_3.iq hn hm).mono ?_); rintro e w4 ⟨s4, A4, n4, c4, rfl, nu, b4⟩; have h_4 := h_3.below b4; have bx_4 := bx_3.below b4 bx_3.lt; have br_4 := br_3.below b4 br_3.lt; have F4 := below_then F3 (Nat.le_refl _) b4)
        | (go_at_call 42; (with_reducible refine (num_q _ _ _ _ _ _ _ q _ h_z0.iq hn hm).mono ?_); rintro e w4 ⟨s4, A4, n4, c4, rfl, nu, b4⟩; have h_4 := h_z0.below b4; have bx_4 := bx_z0.below b4 bx_z0.lt; have br_4 := br_z0.below b4 br_z0.lt; have F4 := below_then F_z0 (Nat.le_refl _) b4; have zb_4 := zb_0.below b4 zb_0.lt)
        | (go_at_call 43; (with_reducible refine (den_q _ _ _ _ _ _ _ q L _ HL.out h_4.iq hn hm K hK6 hqd).mono ?_); rintro e w5 ⟨A5, c5, rfl, de, b5⟩; have h_5 := h_4.below b5; have nu_5 := nu.below b5; have bx_5 := bx_4.below b5 bx_4.lt; have br_5 := br_4.below b5 br_4.lt; have F5 := below_then F4 (Nat.le_refl _) b5; have zb_5 := zb_4.below b5 zb_4.lt; have zk5_0 := zb_5.cell0; have zk5_1 := zb_5.cell1; have zf5_0 := zb_5.frozen 0; have zf5_1 := zb_5.frozen 1)
        | (go_at_call 43; (with_reducible refine (den_q _ _ _ _ _ _ _ q L _ HL.out h_4.iq hn hm K hK6 hqd).mono ?_); rintro e w5 ⟨A5, c5, rfl, de, b5⟩; have h_5 := h_4.below b5; have nu_5 := nu.below b5; have bx_5 := bx_4.below b5 bx_4.lt; have br_5 := br_4.below b5 br_4.lt; have F5 := below_then F4 (Nat.le_refl _) b5)
        | (have h_z5 := h_4.alloc E0; have nu_z5 := nu.alloc E0; have bx_z5 := bx_4.alloc E0; have br_z5 := br_4.alloc E0; have lz_bx := bx_4.lt; have lz_br := br_4.lt; have gl := F4.size; have F_z5 := F4.alloc F4.size E0; have zb_4 := Sb.new (w4) (.bool false) (.slice none 0 0); go_at_call 43; (with_reducible refine (den_q _ _ _ _ _ _ _ q L _ HL.out h_z5.iq hn hm K hK6 hqd).mono ?_); rintro e w5 ⟨A5, c5, rfl, de, b5⟩; have h_5 := h_z5.below b5; have nu_5 := nu_z5.below b5; have bx_5 := bx_z5.below b5 bx_z5.lt; have br_5 := br_z5.below b5 br_z5.lt; have F5 := below_then F_z5 (Nat.le_refl _) b5; have zb_5 := zb_4.below b5 zb_4.lt; have zk5_0 := zb_5.cell0; have zk5_1 := zb_5.cell1; have zf5_0 := zb_5.frozen 0; have zf5_1 := zb_5.frozen 1)
        | fail)
    all_goals (go_wp2_with fail; go_meet; first | exact ⟨_, _, s4, A4, n4, c4, A5, c5, rfl, rfl, rfl, zb_5.stor, gl, lz_bx, lz_br, bx_5.pastI (Nat.ne_of_lt lz_bx), br_5.past (Nat.ne_of_lt lz_br), nu_5.storI zb_5 (.bool s4) (.slice A4 n4 c4), de.storI zb_5 (.bool s4) (.slice A4 n4 c4), below_stor F5 gl⟩ | exact ⟨_, _, s4, A4, n4, c4, A5, c5, rfl, rfl, rfl, Sb.new w5 (.bool s4) (.slice A4 n4 c4), F5.size, bx_5.lt, br_5.lt, bx_5.alloc (EI s4 A4 n4 c4), br_5.alloc (EI s4 A4 n4 c4), nu_5.alloc (EI s4 A4 n4 c4), de.alloc (EI s4 A4 n4 c4), F5.alloc F5.size _⟩ | fail)
  case rest =>
    obtain ⟨wx2, g6, s4, A4, n4, c4, A5, c5, rfl, rfl, rfl, bn_6, gl_6, lt_bn_bx, lt_bn_br, bx_6, br_6, nu_6, de_6, F6⟩ := hcut
    obtain rfl : s4 = sg' := by rw [nu_6.2]; exact HSG.out
    have hx := Cz.ny (k := K) nu_6 (by rw [HX.out]; exact hX1)
    have hy := Rd.ny (k := K) de_6 (by rw [HD.out]; exact hD1)
    rw [HX.out] at hx
    rw [HD.out] at hy
    have hp5 : p ≤ 5000 := by omega
    have kp6 : K + p + 1 ≤ 65536 := by omega
    have kp7 : K + p + 1 ≤ 1048576 := by omega
    have kp8 : K + (p + 1) ≤ K + p + 1 := by omega
    have k65 : K ≤ 65536 := by omega
    have bx_u6 := bx_6.cell0
    have bx_v6 := bx_6.cell1
    have bx_w6 := bx_6.cell2
    have br_u6 := br_6.cell0
    have br_v6 := br_6.cell1
    have bn_u6 := bn_6.cell0
    have bn_v6 := bn_6.cell1
    go_wp2_with fail
    have hx_7 := hx.drew
    have hy_7 := hy.drew
    have bx_7 := bx_6.drew
    have br_7 := br_6.drew
    have bn_7 := bn_6.drew
    have F7 := F6.drew
    go_region_held3 (fun w' => w'.cell? ⟨w.heap.size, 0, none⟩ = some (.bool s) ∧ w'.cell? ⟨w.heap.size, 1, none⟩ = some (.slice A n c) ∧ w'.cell? ⟨w.heap.size, 2, none⟩ = some (.slice B m d) ∧ w'.cell? ⟨w.heap.size + 1, 0, none⟩ = some (.bool false) ∧ w'.cell? ⟨w.heap.size + 1, 1, none⟩ = some (.slice none 0 0) ∧ w'.cell? ⟨g6, 0, none⟩ = some (.bool s4) ∧ w'.cell? ⟨g6, 1, none⟩ = some (.slice A4 n4 c4))
      (first
        | with_reducible exact ⟨bx_10.cell0, bx_10.cell1, bx_10.cell2, br_10.cell0, br_10.cell1, bn_10.cell0, bn_10.cell1⟩
        | with_reducible exact ⟨bx_9.cell0, bx_9.cell1, bx_9.cell2, br_9.cell0, br_9.cell1, bn_9.cell0, bn_9.cell1⟩
        | with_reducible exact ⟨bx_8.cell0, bx_8.cell1, bx_8.cell2, br_8.cell0, br_8.cell1, bn_8.cell0, bn_8.cell1⟩
        | with_reducible exact ⟨bx_7.cell0, bx_7.cell1, bx_7.cell2, br_7.cell0, br_7.cell1, bn_7.cell0, bn_7.cell1⟩
        | fail)
      (first
        | (go_at_call 46; (with_reducible refine (powT_calls p _ _ hp5 rfl).mono ?_); rintro e w8 ⟨A8, n8, c8, rfl, tp, b8⟩; have hx_8 := hx_7.below b8; have hy_8 := hy_7.below b8; have bx_8 := bx_7.below b8 bx_7.lt; have br_8 := br_7.below b8 br_7.lt; have bn_8 := bn_7.below b8 bn_7.lt; have F8 := below_then F7 (Nat.le_refl _) b8)
        | (go_at_call 45; (with_reducible refine (mul_n _ _ _ _ _ _ K (p + 1) (K + p + 1) X (10 ^ p) Nn _ HN.out hx_8.nz tp.nz kp8 kp7).mono ?_); rintro e w9 ⟨A9, n9, c9, rfl, pr, b9⟩; have hx_9 := hx_8.below b9; have hy_9 := hy_8.below b9; have tp_9 := tp.below b9; have bx_9 := bx_8.below b9 bx_8.lt; have br_9 := br_8.below b9 br_8.lt; have bn_9 := bn_8.below b9 bn_8.lt; have F9 := below_then F8 (Nat.le_refl _) b9)
        | (go_at_call 44; (with_reducible refine (div_n _ _ _ _ _ _ (K + p + 1) K Nn D Q R _ HQ.out HR.out hD0 pr.nz hy_9.nz kp6 k65).mono ?_); rintro e w10 ⟨A10, n10, c10, B10, m10, d10, rfl, qu, re, b10⟩; have hx_10 := hx_9.below b10; have hy_10 := hy_9.below b10; have tp_10 := tp_9.below b10; have pr_10 := pr.below b10; have bx_10 := bx_9.below b10 bx_9.lt; have br_10 := br_9.below b10 br_9.lt; have bn_10 := bn_9.below b10 bn_9.lt; have F10 := below_then F9 (Nat.le_refl _) b10)
        | fail)
    have bx_u10 := bx_10.cell0
    have bx_v10 := bx_10.cell1
    have bx_w10 := bx_10.cell2
    have br_u10 := br_10.cell0
    have br_v10 := br_10.cell1
    have bn_u10 := bn_10.cell0
    have bn_v10 := bn_10.cell1
    go_wp2_with fail
    refine (add_n _ _ _ _ _ _ K (K + 1) R R (R + R) _ rfl re.nz re.nz (Nat.le_refl _) (by omega)).mono ?_
    rintro e w11 ⟨A11, n11, c11, rfl, su, b11⟩
    have hy_11 := hy_10.below b11
    have qu_11 := qu.below b11
    have re_11 := re.below b11
    have bx_11 := bx_10.below b11 bx_10.lt
    have br_11 := br_10.below b11 br_10.lt
    have bn_11 := bn_10.below b11 bn_10.lt
    have F11 := below_then F10 (Nat.le_refl _) b11
    have bx_u11 := bx_11.cell0
    have bx_v11 := bx_11.cell1
    have bx_w11 := bx_11.cell2
    have br_u11 := br_11.cell0
    have br_v11 := br_11.cell1
    have bn_u11 := bn_11.cell0
    have bn_v11 := bn_11.cell1
    go_wp2_with fail
    refine (cmp_T _ _ _ _ _ _ (K + 1) K (R + R) D r _ HRR.out su.nz hy_11.nz (by omega) (by omega)).mono ?_
    rintro e w12 ⟨rfl, b12⟩
    have hy_12 := hy_11.below b12
    have qu_12 := qu_11.below b12
    have su_12 := su.below b12
    have bx_12 := bx_11.below b12 bx_11.lt
    have br_12 := br_11.below b12 br_11.lt
    have bn_12 := bn_11.below b12 bn_11.lt
    have F12 := below_then F11 (Nat.le_refl _) b12
    have bx_u12 := bx_12.cell0
    have bx_v12 := bx_12.cell1
    have bx_w12 := bx_12.cell2
    have br_u12 := br_12.cell0
    have br_v12 := br_12.cell1
    have bn_u12 := bn_12.cell0
    have bn_v12 := bn_12.cell1
    have br_f012 := br_12.frozen 0
    have br_f112 := br_12.frozen 1
    go_wp2_with fail
    refine bodyPost_ret (v := .agg #[.bool s4, .slice A10 n10 c10]) (by simp [results, Tryz.results21, go_sem, (br_12.set0 (.bool s4)).cell0, ((br_12.set0 (.bool s4)).set1 (.slice A10 n10 c10)).cell1]) rfl (gm_end F12 (by omega) br_12 (qu_12.mono (show K + p + 1 ≤ K + p + 2 by omega)))
end Go.Proofs.YtjpchbcenbjibaaGreatDoor
