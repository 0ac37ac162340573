/-
  The walk of DyadicArithmetic.
-/
import Derived.Test.YthiapkalmmgliaaDoorY5
namespace Go.Proofs.YthiapkalmmgliaaDoor
open Go.RowKit
set_option linter.unusedVariables false
set_option linter.unusedSimpArgs false

theorem Cy.storQ {w : World} {s : Bool} {A : Option Addr} {n c : Nat} {e : Int} {q : Rat} (h : Cy w s A n c e q) {g : Nat} {s0 : Bool} {A0 B0 : Option Addr} {l0 d0 l1 d1 : Nat} (hs : Sq w g (.bool s0) (.slice A0 l0 d0) (.slice B0 l1 d1)) (u0 u1 u2 : Value) :
    Cy (((w.setCell ⟨g, 0, none⟩ u0).setCell ⟨g, 1, none⟩ u1).setCell ⟨g, 2, none⟩ u2) s A n c e q := ⟨h.1.storQ hs _ _ _, h.2⟩
theorem Sq_at {w : World} {g g' : Nat} {v0 v1 v2 : Value} (h : Sq w g v0 v1 v2) (e : g = g') : Sq w g' v0 v1 v2 := e ▸ h
set_option maxRecDepth 50000 in
set_option maxHeartbeats 8000000 in
theorem da_a (s : Bool) (A : Option Addr) (n c : Nat) (e : Int) (t : Bool) (B : Option Addr) (m d : Nat) (x : Int) (xs ys : List Nat) (w : World) (hx : Rd w A n c xs) (hy : Rd w B m d ys) (hh : ¬ (n ≤ 3 ∧ (-200 ≤ e ∧ e ≤ 200) ∧ vb s xs e = true)) (T : Tb w) : Calls Tryd.prog 8 #[.agg #[.bool s, .slice A n c, .int .i64 e], .agg #[.bool t, .slice B m d, .int .i64 x]] w (fun e w' => e = .returned (.bool true) ∧ Below w.heap.size w w') := by
  have HN := hide hh
  clear hy hh
  have hx_1 := hx.alloc (EY s A n c e)
  have T_1 := T.alloc (EY s A n c e)
  have ba_1 : Sy ((w).alloc (EY s A n c e)) (w.heap.size) (.bool s) (.slice A n c) (.int .i64 e) := by have h_ := Sy.new (w) (.bool s) (.slice A n c) (.int .i64 e); exact h_
  have F1 := (Below.refl w.heap.size w).alloc (Nat.le_refl _) (EY s A n c e)
  have hx_2 := hx_1.alloc (EY t B m d x)
  have T_2 := T_1.alloc (EY t B m d x)
  have ba_2 := ba_1.alloc (EY t B m d x)
  have bb_2 : Sy (((w).alloc (EY s A n c e)).alloc (EY t B m d x)) (w.heap.size + 1) (.bool t) (.slice B m d) (.int .i64 x) := by have h_ := Sy.new ((w).alloc (EY s A n c e)) (.bool t) (.slice B m d) (.int .i64 x); simp only [World.size_alloc] at h_; exact h_
  have F2 := F1.alloc F1.size (EY t B m d x)
  go_enter Tryd.func8, Tryd.ntmps8
  go_wp2_with fail
  refine (awake5 _ T_2).mono ?_
  rintro e w3 ⟨rfl, b3⟩
  have hx_3 := hx_2.below b3
  have T_3 := T_2.below b3
  have ba_3 := ba_2.below b3 ba_2.lt
  have bb_3 := bb_2.below b3 bb_2.lt
  have F3 := below_then F2 (Nat.le_refl _) b3
  have ba_u3 := ba_3.cell0
  have ba_v3 := ba_3.cell1
  have ba_w3 := ba_3.cell2
  have bb_u3 := bb_3.cell0
  have bb_v3 := bb_3.cell1
  have bb_w3 := bb_3.cell2
  go_wp2_with fail
  refine (small_no _ _ _ _ _ xs _ hx_3 HN.out).mono ?_
  rintro e w4 ⟨rfl, b4⟩
  have hx_4 := hx_3.below b4
  have T_4 := T_3.below b4
  have ba_4 := ba_3.below b4 ba_3.lt
  have bb_4 := bb_3.below b4 bb_3.lt
  have F4 := below_then F3 (Nat.le_refl _) b4
  have ba_u4 := ba_4.cell0
  have ba_v4 := ba_4.cell1
  have ba_w4 := ba_4.cell2
  have bb_u4 := bb_4.cell0
  have bb_v4 := bb_4.cell1
  have bb_w4 := bb_4.cell2
  go_wp2
  go_ret
  exact ⟨rfl, F4⟩
set_option maxRecDepth 50000 in
set_option maxHeartbeats 8000000 in
theorem da_b (s : Bool) (A : Option Addr) (n c : Nat) (e : Int) (t : Bool) (B : Option Addr) (m d : Nat) (x : Int) (xs ys : List Nat) (w : World) (hx : Rd w A n c xs) (hy : Rd w B m d ys) (ha : (n ≤ 3 ∧ (-200 ≤ e ∧ e ≤ 200) ∧ vb s xs e = true)) (hh : ¬ (m ≤ 3 ∧ (-200 ≤ x ∧ x ≤ 200) ∧ vb t ys x = true)) (T : Tb w) : Calls Tryd.prog 8 #[.agg #[.bool s, .slice A n c, .int .i64 e], .agg #[.bool t, .slice B m d, .int .i64 x]] w (fun e w' => e = .returned (.bool true) ∧ Below w.heap.size w w') := by
  have HN := hide hh
  have HA := hide ha
  clear hh ha
  have hx_1 := hx.alloc (EY s A n c e)
  have hy_1 := hy.alloc (EY s A n c e)
  have T_1 := T.alloc (EY s A n c e)
  have ba_1 : Sy ((w).alloc (EY s A n c e)) (w.heap.size) (.bool s) (.slice A n c) (.int .i64 e) := by have h_ := Sy.new (w) (.bool s) (.slice A n c) (.int .i64 e); exact h_
  have F1 := (Below.refl w.heap.size w).alloc (Nat.le_refl _) (EY s A n c e)
  have hx_2 := hx_1.alloc (EY t B m d x)
  have hy_2 := hy_1.alloc (EY t B m d x)
  have T_2 := T_1.alloc (EY t B m d x)
  have ba_2 := ba_1.alloc (EY t B m d x)
  have bb_2 : Sy (((w).alloc (EY s A n c e)).alloc (EY t B m d x)) (w.heap.size + 1) (.bool t) (.slice B m d) (.int .i64 x) := by have h_ := Sy.new ((w).alloc (EY s A n c e)) (.bool t) (.slice B m d) (.int .i64 x); simp only [World.size_alloc] at h_; exact h_
  have F2 := F1.alloc F1.size (EY t B m d x)
  go_enter Tryd.func8, Tryd.ntmps8
  go_wp2_with fail
  refine (awake5 _ T_2).mono ?_
  rintro e w3 ⟨rfl, b3⟩
  have hx_3 := hx_2.below b3
  have hy_3 := hy_2.below b3
  have T_3 := T_2.below b3
  have ba_3 := ba_2.below b3 ba_2.lt
  have bb_3 := bb_2.below b3 bb_2.lt
  have F3 := below_then F2 (Nat.le_refl _) b3
  have ba_u3 := ba_3.cell0
  have ba_v3 := ba_3.cell1
  have ba_w3 := ba_3.cell2
  have bb_u3 := bb_3.cell0
  have bb_v3 := bb_3.cell1
  have bb_w3 := bb_3.cell2
  go_wp2_with fail
  refine (small_v _ _ _ _ _ xs true _ hx_3 HA.out.1 HA.out.2.1 HA.out.2.2).mono ?_
  rintro e w4 ⟨rfl, b4⟩
  have hx_4 := hx_3.below b4
  have hy_4 := hy_3.below b4
  have T_4 := T_3.below b4
  have ba_4 := ba_3.below b4 ba_3.lt
  have bb_4 := bb_3.below b4 bb_3.lt
  have F4 := below_then F3 (Nat.le_refl _) b4
  have ba_u4 := ba_4.cell0
  have ba_v4 := ba_4.cell1
  have ba_w4 := ba_4.cell2
  have bb_u4 := bb_4.cell0
  have bb_v4 := bb_4.cell1
  have bb_w4 := bb_4.cell2
  go_wp2_with fail
  refine (small_no _ _ _ _ _ ys _ hy_4 HN.out).mono ?_
  rintro e w5 ⟨rfl, b5⟩
  have hy_5 := hy_4.below b5
  have T_5 := T_4.below b5
  have ba_5 := ba_4.below b5 ba_4.lt
  have bb_5 := bb_4.below b5 bb_4.lt
  have F5 := below_then F4 (Nat.le_refl _) b5
  have ba_u5 := ba_5.cell0
  have ba_v5 := ba_5.cell1
  have ba_w5 := ba_5.cell2
  have bb_u5 := bb_5.cell0
  have bb_v5 := bb_5.cell1
  have bb_w5 := bb_5.cell2
  go_wp2
  go_ret
  exact ⟨rfl, F5⟩
set_option maxRecDepth 50000 in
set_option maxHeartbeats 8000000 in
theorem da_yes (s : Bool) (A : Option Addr) (n c : Nat) (e : Int) (t : Bool) (B : Option Addr) (m d : Nat) (x : Int) (xs ys : List Nat) (w : World) (hx : Rd w A n c xs) (hy : Rd w B m d ys) (ha : (n ≤ 3 ∧ (-200 ≤ e ∧ e ≤ 200) ∧ vb s xs e = true)) (hb : (m ≤ 3 ∧ (-200 ≤ x ∧ x ≤ 200) ∧ vb t ys x = true)) (T : Tb w) : Calls Tryd.prog 8 #[.agg #[.bool s, .slice A n c, .int .i64 e], .agg #[.bool t, .slice B m d, .int .i64 x]] w (fun e w' => e = .returned (.bool true) ∧ Below w.heap.size w w') := by
  obtain ⟨p, hp⟩ : ∃ p, dvl s (val xs) e = p := ⟨_, rfl⟩
  obtain ⟨q, hq⟩ : ∃ q, dvl t (val ys) x = q := ⟨_, rfl⟩
  have h : Cy w s A n c e p := by rw [← hp]; exact (vb_cy hx ha.2.2).1
  have k : Cy w t B m d x q := by rw [← hq]; exact (vb_cy hy hb.2.2).1
  have lX : dm p < pw 3 := by have := rd_lt h.1 ha.1; rwa [val_dg] at this
  have lY : dm q < pw 3 := by have := rd_lt k.1 hb.1; rwa [val_dg] at this
  have ep := h.2.2.1
  have eq_ := k.2.2.1
  have sp : Qs 10 p := qs_dy h.2.2.2 lX (by decide) (by rw [← ep]; exact ha.2.1)
  have sq : Qs 10 q := qs_dy k.2.2.2 lY (by decide) (by rw [← eq_]; exact hb.2.1)
  have bm := de_bd (size_mul sp sq)
  have ba_ := de_bd (size_add sp sq)
  have hm1 : dm (p * q) < pw 20 := Nat.lt_of_le_of_lt (odp_le _) (size_mul sp sq).1
  have hs1 : dm (p + q) < pw 21 := Nat.lt_of_le_of_lt (odp_le _) (size_add sp sq).1
  have hp1 : p.num.natAbs < pw 10 := sp.1
  have hp2 : p.den < pw 10 := sp.2
  have hq1 : q.num.natAbs < pw 10 := sq.1
  have hq2 : q.den < pw 10 := sq.2
  have z1 : (p + q).num.natAbs < pw 21 := (size_add sp sq).1
  have z2 : (p + q).den < pw 21 := (size_add sp sq).2
  have z3 : (p * q).num.natAbs < pw 20 := (size_mul sp sq).1
  have z4 : (p * q).den < pw 20 := (size_mul sp sq).2
  have HA := hide ha
  have HB := hide hb
  have HDm := hide (show -1048576 ≤ de (p * q) ∧ de (p * q) ≤ 1048576 by omega)
  have HDs := hide (show -1048576 ≤ de (p + q) ∧ de (p + q) ≤ 1048576 by omega)
  have HDm2 := hide (show -256000 < de (p * q) ∧ de (p * q) < 256000 by omega)
  have HDs2 := hide (show -256000 < de (p + q) ∧ de (p + q) < 256000 by omega)
  have HE := hide (show -1048576 ≤ e ∧ e ≤ 1048576 by omega)
  have HX := hide (show -1048576 ≤ x ∧ x ≤ 1048576 by omega)
  have HE2 := hide (show -256000 < e ∧ e < 256000 by omega)
  have HX2 := hide (show -256000 < x ∧ x < 256000 by omega)
  have qn8 : n ≤ 8000 := by omega
  have qm8 : m ≤ 8000 := by omega
  obtain ⟨r, hr⟩ : ∃ r, sz (p - q).num = r := ⟨_, rfl⟩
  have HR := hide hr
  have x1 : (r != r) = false := by simp
  have k10 : 10 ≤ 4000 := by omega
  have k16 : 21 ≤ 16384 := by omega
  have k15 : 20 ≤ 16384 := by omega
  have k8 : 21 ≤ 8000 := by omega
  have k7 : 20 ≤ 8000 := by omega
  clear ha hb hp hq bm ba_ sp sq hr ep eq_ lX lY
  have hx_1 := hx.alloc (EY s A n c e)
  have hy_1 := hy.alloc (EY s A n c e)
  have h_1 := h.alloc (EY s A n c e)
  have k_1 := k.alloc (EY s A n c e)
  have T_1 := T.alloc (EY s A n c e)
  have ba_1 : Sy ((w).alloc (EY s A n c e)) (w.heap.size) (.bool s) (.slice A n c) (.int .i64 e) := by have h_ := Sy.new (w) (.bool s) (.slice A n c) (.int .i64 e); exact h_
  have F1 := (Below.refl w.heap.size w).alloc (Nat.le_refl _) (EY s A n c e)
  have hx_2 := hx_1.alloc (EY t B m d x)
  have hy_2 := hy_1.alloc (EY t B m d x)
  have h_2 := h_1.alloc (EY t B m d x)
  have k_2 := k_1.alloc (EY t B m d x)
  have T_2 := T_1.alloc (EY t B m d x)
  have ba_2 := ba_1.alloc (EY t B m d x)
  have bb_2 : Sy (((w).alloc (EY s A n c e)).alloc (EY t B m d x)) (w.heap.size + 1) (.bool t) (.slice B m d) (.int .i64 x) := by have h_ := Sy.new ((w).alloc (EY s A n c e)) (.bool t) (.slice B m d) (.int .i64 x); simp only [World.size_alloc] at h_; exact h_
  have F2 := F1.alloc F1.size (EY t B m d x)
  go_enter Tryd.func8, Tryd.ntmps8
  go_wp2_with fail
  refine (awake5 _ T_2).mono ?_
  rintro e w3 ⟨rfl, b3⟩
  have hx_3 := hx_2.below b3
  have hy_3 := hy_2.below b3
  have h_3 := h_2.below b3
  have k_3 := k_2.below b3
  have T_3 := T_2.below b3
  have ba_3 := ba_2.below b3 ba_2.lt
  have bb_3 := bb_2.below b3 bb_2.lt
  have F3 := below_then F2 (Nat.le_refl _) b3
  have ba_u3 := ba_3.cell0
  have ba_v3 := ba_3.cell1
  have ba_w3 := ba_3.cell2
  have bb_u3 := bb_3.cell0
  have bb_v3 := bb_3.cell1
  have bb_w3 := bb_3.cell2
  go_wp2_with fail
  refine (small_v _ _ _ _ _ xs true _ hx_3 HA.out.1 HA.out.2.1 HA.out.2.2).mono ?_
  rintro e w4 ⟨rfl, b4⟩
  have hx_4 := hx_3.below b4
  have hy_4 := hy_3.below b4
  have h_4 := h_3.below b4
  have k_4 := k_3.below b4
  have T_4 := T_3.below b4
  have ba_4 := ba_3.below b4 ba_3.lt
  have bb_4 := bb_3.below b4 bb_3.lt
  have F4 := below_then F3 (Nat.le_refl _) b4
  have ba_u4 := ba_4.cell0
  have ba_v4 := ba_4.cell1
  have ba_w4 := ba_4.cell2
  have bb_u4 := bb_4.cell0
  have bb_v4 := bb_4.cell1
  have bb_w4 := bb_4.cell2
  go_wp2_with fail
  refine (small_v _ _ _ _ _ ys true _ hy_4 HB.out.1 HB.out.2.1 HB.out.2.2).mono ?_
  rintro e w5 ⟨rfl, b5⟩
  have hy_5 := hy_4.below b5
  have h_5 := h_4.below b5
  have k_5 := k_4.below b5
  have T_5 := T_4.below b5
  have ba_5 := ba_4.below b5 ba_4.lt
  have bb_5 := bb_4.below b5 bb_4.lt
  have F5 := below_then F4 (Nat.le_refl _) b5
  have ba_u5 := ba_5.cell0
  have ba_v5 := ba_5.cell1
  have ba_w5 := ba_5.cell2
  have bb_u5 := bb_5.cell0
  have bb_v5 := bb_5.cell1
  have bb_w5 := bb_5.cell2
  go_wp2_with fail
  refine (yadd_q _ _ _ _ _ _ _ _ _ _ p q _ h_5 k_5 HA.out.1 HB.out.1 HA.out.2.1 HB.out.2.1 T_5).mono ?_
  rintro e w6 ⟨s6, A6, n6, c6, x6, rfl, ys1, b6⟩
  have h_6 := h_5.below b6
  have k_6 := k_5.below b6
  have T_6 := T_5.below b6
  have ba_6 := ba_5.below b6 ba_5.lt
  have bb_6 := bb_5.below b6 bb_5.lt
  have F6 := below_then F5 (Nat.le_refl _) b6
  have ba_u6 := ba_6.cell0
  have ba_v6 := ba_6.cell1
  have ba_w6 := ba_6.cell2
  have bb_u6 := bb_6.cell0
  have bb_v6 := bb_6.cell1
  have bb_w6 := bb_6.cell2
  have lt_bs_ba := ba_6.lt
  have lt_bs_bb := bb_6.lt
  have h_7 := h_6.alloc (EY s6 A6 n6 c6 x6)
  have k_7 := k_6.alloc (EY s6 A6 n6 c6 x6)
  have T_7 := T_6.alloc (EY s6 A6 n6 c6 x6)
  have ys1_7 := ys1.alloc (EY s6 A6 n6 c6 x6)
  have ba_7 := ba_6.alloc (EY s6 A6 n6 c6 x6)
  have bb_7 := bb_6.alloc (EY s6 A6 n6 c6 x6)
  have bs_7 : Sy ((w6).alloc (EY s6 A6 n6 c6 x6)) (w6.heap.size) (.bool s6) (.slice A6 n6 c6) (.int .i64 x6) := by have h_ := Sy.new (w6) (.bool s6) (.slice A6 n6 c6) (.int .i64 x6); exact h_
  have F7 := F6.alloc F6.size (EY s6 A6 n6 c6 x6)
  have ba_u7 := ba_7.cell0
  have ba_v7 := ba_7.cell1
  have ba_w7 := ba_7.cell2
  have bb_u7 := bb_7.cell0
  have bb_v7 := bb_7.cell1
  have bb_w7 := bb_7.cell2
  have bs_u7 := bs_7.cell0
  have bs_v7 := bs_7.cell1
  have bs_w7 := bs_7.cell2
  go_wp2_with fail
  refine (ymul_q _ _ _ _ _ _ _ _ _ _ p q _ h_7 k_7 HA.out.1 HB.out.1 HE.out HX.out HDm.out T_7).mono ?_
  rintro e w8 ⟨s8, A8, n8, c8, x8, rfl, yp1, b8⟩
  have h_8 := h_7.below b8
  have k_8 := k_7.below b8
  have T_8 := T_7.below b8
  have ys1_8 := ys1_7.below b8
  have ba_8 := ba_7.below b8 ba_7.lt
  have bb_8 := bb_7.below b8 bb_7.lt
  have bs_8 := bs_7.below b8 bs_7.lt
  have F8 := below_then F7 (Nat.le_refl _) b8
  have ba_u8 := ba_8.cell0
  have ba_v8 := ba_8.cell1
  have ba_w8 := ba_8.cell2
  have bb_u8 := bb_8.cell0
  have bb_v8 := bb_8.cell1
  have bb_w8 := bb_8.cell2
  have bs_u8 := bs_8.cell0
  have bs_v8 := bs_8.cell1
  have bs_w8 := bs_8.cell2
  have lt_bp_ba := ba_8.lt
  have lt_bp_bb := bb_8.lt
  have lt_bp_bs := bs_8.lt
  have h_9 := h_8.alloc (EY s8 A8 n8 c8 x8)
  have k_9 := k_8.alloc (EY s8 A8 n8 c8 x8)
  have T_9 := T_8.alloc (EY s8 A8 n8 c8 x8)
  have ys1_9 := ys1_8.alloc (EY s8 A8 n8 c8 x8)
  have yp1_9 := yp1.alloc (EY s8 A8 n8 c8 x8)
  have ba_9 := ba_8.alloc (EY s8 A8 n8 c8 x8)
  have bb_9 := bb_8.alloc (EY s8 A8 n8 c8 x8)
  have bs_9 := bs_8.alloc (EY s8 A8 n8 c8 x8)
  have bp_9 : Sy ((w8).alloc (EY s8 A8 n8 c8 x8)) (w8.heap.size) (.bool s8) (.slice A8 n8 c8) (.int .i64 x8) := by have h_ := Sy.new (w8) (.bool s8) (.slice A8 n8 c8) (.int .i64 x8); exact h_
  have F9 := F8.alloc F8.size (EY s8 A8 n8 c8 x8)
  have ba_u9 := ba_9.cell0
  have ba_v9 := ba_9.cell1
  have ba_w9 := ba_9.cell2
  have bb_u9 := bb_9.cell0
  have bb_v9 := bb_9.cell1
  have bb_w9 := bb_9.cell2
  have bs_u9 := bs_9.cell0
  have bs_v9 := bs_9.cell1
  have bs_w9 := bs_9.cell2
  have bp_u9 := bp_9.cell0
  have bp_v9 := bp_9.cell1
  have bp_w9 := bp_9.cell2
  have es : x6 = de (p + q) := ys1_9.2.2.1
  have em : x8 = de (p * q) := yp1_9.2.2.1
  have HES := hide es
  have HEM := hide em
  have ns8 : n6 ≤ 21 := ys1_9.ln hs1
  have np8 : n8 ≤ 20 := yp1_9.ln hm1
  clear es em
  clear hx_1 hy_1 h_1 k_1 T_1 ba_1 F1 hx_2 hy_2 h_2 k_2 T_2 ba_2 bb_2 F2 b3 hx_3 hy_3 h_3 k_3 T_3 ba_3 bb_3 F3 ba_u3 ba_v3 ba_w3 bb_u3 bb_v3 bb_w3 b4 hx_4 hy_4 h_4 k_4 T_4 ba_4 bb_4 F4 ba_u4 ba_v4 ba_w4 bb_u4 bb_v4 bb_w4 b5 hy_5 h_5 k_5 T_5 ba_5 bb_5 F5 ba_u5 ba_v5 ba_w5 bb_u5 bb_v5 bb_w5 ys1 b6 h_6 k_6 T_6 ba_6 bb_6 F6 ba_u6 ba_v6 ba_w6 bb_u6 bb_v6 bb_w6 lt_bs_ba lt_bs_bb h_7 k_7 T_7 ys1_7 ba_7 bb_7 bs_7 F7 ba_u7 ba_v7 ba_w7 bb_u7 bb_v7 bb_w7 bs_u7 bs_v7 bs_w7 yp1 b8 h_8 k_8 T_8 ys1_8 ba_8 bb_8 bs_8 F8 ba_u8 ba_v8 ba_w8 bb_u8 bb_v8 bb_w8 bs_u8 bs_v8 bs_w8 lt_bp_ba lt_bp_bb lt_bp_bs T_9 ba_u9 ba_v9 ba_w9 bb_u9 bb_v9 bb_w9 bs_u9 bs_v9 bs_w9 bp_u9 bp_v9 bp_w9
  go_upto_region 7 with fail
  go_cut [9, 10] (fun sx sy wy => ∃ (W' : World) (gx gy : Nat) (s1_ : Bool) (A1_ : Option Addr) (n1_ c1_ : Nat) (B1_ : Option Addr) (m1_ d1_ : Nat) (s2_ : Bool) (A2_ : Option Addr) (n2_ c2_ : Nat) (B2_ : Option Addr) (m2_ d2_ : Nat), W' = wy ∧ sx = .pointer (some ⟨gx, 0, none⟩) ∧ sy = .pointer (some ⟨gy, 0, none⟩) ∧ Sq W' gx (.bool s1_) (.slice A1_ n1_ c1_) (.slice B1_ m1_ d1_) ∧ Sq W' gy (.bool s2_) (.slice A2_ n2_ c2_) (.slice B2_ m2_ d2_) ∧ Sy W' (w.heap.size) (.bool s) (.slice A n c) (.int .i64 e) ∧ Sy W' (w.heap.size + 1) (.bool t) (.slice B m d) (.int .i64 x) ∧ Sy W' (w6.heap.size) (.bool s6) (.slice A6 n6 c6) (.int .i64 x6) ∧ Sy W' (w8.heap.size) (.bool s8) (.slice A8 n8 c8) (.int .i64 x8) ∧ Cy W' s A n c e p ∧ Cy W' t B m d x q ∧ Cy W' s6 A6 n6 c6 x6 (p + q) ∧ Cy W' s8 A8 n8 c8 x8 (p * q) ∧ Cq W' s1_ A1_ n1_ c1_ B1_ m1_ d1_ p ∧ Cq W' s2_ A2_ n2_ c2_ B2_ m2_ d2_ q ∧ Below w.heap.size w W')
  case first =>
    have ltq_ba := ba_9.lt
    simp only [World.size_alloc] at ltq_ba
    have ltq_bb := bb_9.lt
    simp only [World.size_alloc] at ltq_bb
    have ltq_bs := bs_9.lt
    simp only [World.size_alloc] at ltq_bs
    have ltq_bp := bp_9.lt
    simp only [World.size_alloc] at ltq_bp
    have glq := F9.size
    simp only [World.size_alloc] at glq
    have nq1_ : w.heap.size ≠ w8.heap.size := by omega
    have nq2_ := Ne.symm nq1_
    have nq3_ : w.heap.size ≠ w8.heap.size + 1 := by omega
    have nq4_ := Ne.symm nq3_
    have h_10 := h_9.drew
    have k_10 := k_9.drew
    have ys1_10 := ys1_9.drew
    have yp1_10 := yp1_9.drew
    have ba_10 := ba_9.drew
    have bb_10 := bb_9.drew
    have bs_10 := bs_9.drew
    have bp_10 := bp_9.drew
    have F10 := F9.drew
    have h_y1 := h_9.alloc EQ0
    have k_y1 := k_9.alloc EQ0
    have ys1_y1 := ys1_9.alloc EQ0
    have yp1_y1 := yp1_9.alloc EQ0
    have ba_y1 := ba_9.alloc EQ0
    have bb_y1 := bb_9.alloc EQ0
    have bs_y1 := bs_9.alloc EQ0
    have bp_y1 := bp_9.alloc EQ0
    have zq1 : Sq (((w8).alloc (EY s8 A8 n8 c8 x8)).alloc EQ0) (w8.heap.size + 1) (.bool false) (.slice none 0 0) (.slice none 0 0) := by have h_ := Sq.new ((w8).alloc (EY s8 A8 n8 c8 x8)) (.bool false) (.slice none 0 0) (.slice none 0 0); simp only [World.size_alloc] at h_; exact h_
    have F_y1 := F9.alloc F9.size EQ0
    have h_d1 := h_y1.drew
    have k_d1 := k_y1.drew
    have ys1_d1 := ys1_y1.drew
    have yp1_d1 := yp1_y1.drew
    have ba_d1 := ba_y1.drew
    have bb_d1 := bb_y1.drew
    have bs_d1 := bs_y1.drew
    have bp_d1 := bp_y1.drew
    have z1_d1 := zq1.drew
    have F_d1 := F_y1.drew
    have h_y2 := h_y1.alloc EQ0
    have k_y2 := k_y1.alloc EQ0
    have ys1_y2 := ys1_y1.alloc EQ0
    have yp1_y2 := yp1_y1.alloc EQ0
    have ba_y2 := ba_y1.alloc EQ0
    have bb_y2 := bb_y1.alloc EQ0
    have bs_y2 := bs_y1.alloc EQ0
    have bp_y2 := bp_y1.alloc EQ0
    have zq12 := zq1.alloc EQ0
    have zq2 : Sq ((((w8).alloc (EY s8 A8 n8 c8 x8)).alloc EQ0).alloc EQ0) (w8.heap.size + 2) (.bool false) (.slice none 0 0) (.slice none 0 0) := by have h_ := Sq.new (((w8).alloc (EY s8 A8 n8 c8 x8)).alloc EQ0) (.bool false) (.slice none 0 0) (.slice none 0 0); simp only [World.size_alloc] at h_; exact h_
    have F_y2 := F_y1.alloc F_y1.size EQ0
    have h_d2 := h_y2.drew
    have k_d2 := k_y2.drew
    have ys1_d2 := ys1_y2.drew
    have yp1_d2 := yp1_y2.drew
    have ba_d2 := ba_y2.drew
    have bb_d2 := bb_y2.drew
    have bs_d2 := bs_y2.drew
    have bp_d2 := bp_y2.drew
    have z1_d2 := zq12.drew
    have z2_d2 := zq2.drew
    have F_d2 := F_y2.drew
    have lz1_ba : w.heap.size ≠ w8.heap.size + 1 := by omega
    have ly1_ba := Ne.symm lz1_ba
    have lz1_bb : w.heap.size + 1 ≠ w8.heap.size + 1 := by omega
    have ly1_bb := Ne.symm lz1_bb
    have lz1_bs : w6.heap.size ≠ w8.heap.size + 1 := by omega
    have ly1_bs := Ne.symm lz1_bs
    have lz1_bp : w8.heap.size ≠ w8.heap.size + 1 := by omega
    have ly1_bp := Ne.symm lz1_bp
    have lz2_ba : w.heap.size ≠ w8.heap.size + 2 := by omega
    have ly2_ba := Ne.symm lz2_ba
    have lz2_bb : w.heap.size + 1 ≠ w8.heap.size + 2 := by omega
    have ly2_bb := Ne.symm lz2_bb
    have lz2_bs : w6.heap.size ≠ w8.heap.size + 2 := by omega
    have ly2_bs := Ne.symm lz2_bs
    have lz2_bp : w8.heap.size ≠ w8.heap.size + 2 := by omega
    have ly2_bp := Ne.symm lz2_bp
    have gl1 : w.heap.size ≤ w8.heap.size + 1 := by have := F9.size; omega
    have gl2 : w.heap.size ≤ w8.heap.size + 2 := by have := F9.size; omega
    have lzz1_2 : w8.heap.size + 1 ≠ w8.heap.size + 2 := by omega
    have lyy1_2 := Ne.symm lzz1_2
    go_region_held3 (fun w' => w'.cell? ⟨w.heap.size, 0, none⟩ = some (.bool s) ∧ w'.cell? ⟨w.heap.size, 1, none⟩ = some (.slice A n c) ∧ w'.cell? ⟨w.heap.size, 2, none⟩ = some (.int .i64 e) ∧ w'.cell? ⟨w.heap.size + 1, 0, none⟩ = some (.bool t) ∧ w'.cell? ⟨w.heap.size + 1, 1, none⟩ = some (.slice B m d) ∧ w'.cell? ⟨w.heap.size + 1, 2, none⟩ = some (.int .i64 x))
      (first
        | with_reducible exact ⟨((ba_12.alloc EQ0).alloc EQ0).cell0, ((ba_12.alloc EQ0).alloc EQ0).cell1, ((ba_12.alloc EQ0).alloc EQ0).cell2, ((bb_12.alloc EQ0).alloc EQ0).cell0, ((bb_12.alloc EQ0).alloc EQ0).cell1, ((bb_12.alloc EQ0).alloc EQ0).cell2⟩
        | with_reducible exact ⟨(ba_12.alloc EQ0).cell0, (ba_12.alloc EQ0).cell1, (ba_12.alloc EQ0).cell2, (bb_12.alloc EQ0).cell0, (bb_12.alloc EQ0).cell1, (bb_12.alloc EQ0).cell2⟩
        | with_reducible exact ⟨ba_12.cell0, ba_12.cell1, ba_12.cell2, bb_12.cell0, bb_12.cell1, bb_12.cell2⟩
        | with_reducible exact ⟨((ba_11.alloc EQ0).alloc EQ0).cell0, ((ba_11.alloc EQ0).alloc EQ0).cell1, ((ba_11.alloc EQ0).alloc EQ0).cell2, ((bb_11.alloc EQ0).alloc EQ0).cell0, ((bb_11.alloc EQ0).alloc EQ0).cell1, ((bb_11.alloc EQ0).alloc EQ0).cell2⟩
        | with_reducible exact ⟨(ba_11.alloc EQ0).cell0, (ba_11.alloc EQ0).cell1, (ba_11.alloc EQ0).cell2, (bb_11.alloc EQ0).cell0, (bb_11.alloc EQ0).cell1, (bb_11.alloc EQ0).cell2⟩
        | with_reducible exact ⟨ba_11.cell0, ba_11.cell1, ba_11.cell2, bb_11.cell0, bb_11.cell1, bb_11.cell2⟩
        | with_reducible exact ⟨ba_d2.cell0, ba_d2.cell1, ba_d2.cell2, bb_d2.cell0, bb_d2.cell1, bb_d2.cell2⟩
        | with_reducible exact ⟨ba_d1.cell0, ba_d1.cell1, ba_d1.cell2, bb_d1.cell0, bb_d1.cell1, bb_d1.cell2⟩
        | with_reducible exact ⟨ba_10.cell0, ba_10.cell1, ba_10.cell2, bb_10.cell0, bb_10.cell1, bb_10.cell2⟩
        | go_keep
        | fail)
      (first
        | (go_at_call 23; (with_reducible refine (ryrat _ _ _ _ _ p _ h_10 qn8 HE2.out).mono ?_); rintro e w11 ⟨s11, A11, n11, c11, B11, m11, d11, rfl, rx, b11⟩; have h_11 := h_10.below b11; have k_11 := k_10.below b11; have ys1_11 := ys1_10.below b11; have yp1_11 := yp1_10.below b11; have ba_11 := ba_10.below b11 ba_10.lt; have bb_11 := bb_10.below b11 bb_10.lt; have bs_11 := bs_10.below b11 bs_10.lt; have bp_11 := bp_10.below b11 bp_10.lt; have F11 := below_then F10 (Nat.le_refl _) b11)
        | (go_at_call 23; (with_reducible refine (ryrat _ _ _ _ _ p _ h_d1 qn8 HE2.out).mono ?_); rintro e w11 ⟨s11, A11, n11, c11, B11, m11, d11, rfl, rx, b11⟩; have h_11 := h_d1.below b11; have k_11 := k_d1.below b11; have ys1_11 := ys1_d1.below b11; have yp1_11 := yp1_d1.below b11; have ba_11 := ba_d1.below b11 ba_d1.lt; have bb_11 := bb_d1.below b11 bb_d1.lt; have bs_11 := bs_d1.below b11 bs_d1.lt; have bp_11 := bp_d1.below b11 bp_d1.lt; have z1_11 := z1_d1.below b11 z1_d1.lt; have F11 := below_then F_d1 (Nat.le_refl _) b11)
        | (go_at_call 23; (with_reducible refine (ryrat _ _ _ _ _ p _ h_d2 qn8 HE2.out).mono ?_); rintro e w11 ⟨s11, A11, n11, c11, B11, m11, d11, rfl, rx, b11⟩; have h_11 := h_d2.below b11; have k_11 := k_d2.below b11; have ys1_11 := ys1_d2.below b11; have yp1_11 := yp1_d2.below b11; have ba_11 := ba_d2.below b11 ba_d2.lt; have bb_11 := bb_d2.below b11 bb_d2.lt; have bs_11 := bs_d2.below b11 bs_d2.lt; have bp_11 := bp_d2.below b11 bp_d2.lt; have z1_11 := z1_d2.below b11 z1_d2.lt; have z2_11 := z2_d2.below b11 z2_d2.lt; have F11 := below_then F_d2 (Nat.le_refl _) b11)
        | (go_at_call 23; (with_reducible refine (ryrat _ _ _ _ _ q _ k_11 qm8 HX2.out).mono ?_); rintro e w12 ⟨s12, A12, n12, c12, B12, m12, d12, rfl, ry, b12⟩; have h_12 := h_11.below b12; have k_12 := k_11.below b12; have ys1_12 := ys1_11.below b12; have yp1_12 := yp1_11.below b12; have rx_12 := rx.below b12; have ba_12 := ba_11.below b12 ba_11.lt; have bb_12 := bb_11.below b12 bb_11.lt; have bs_12 := bs_11.below b12 bs_11.lt; have bp_12 := bp_11.below b12 bp_11.lt; have z1_12 := z1_11.below b12 z1_11.lt; have z2_12 := z2_11.below b12 z2_11.lt; have zk0_0 := z1_12.cell0; have zf0_0 := z1_12.frozen 0; have zk0_1 := z1_12.cell1; have zf0_1 := z1_12.frozen 1; have zk0_2 := z1_12.cell2; have zf0_2 := z1_12.frozen 2; have zk1_0 := z2_12.cell0; have zf1_0 := z2_12.frozen 0; have zk1_1 := z2_12.cell1; have zf1_1 := z2_12.frozen 1; have zk1_2 := z2_12.cell2; have zf1_2 := z2_12.frozen 2; have F12 := below_then F11 (Nat.le_refl _) b12; have kl_ba := ba_12.lt; have km_ba := Nat.ne_of_lt ba_12.lt; have kn_ba := Nat.ne_of_gt ba_12.lt; have kc_ba0 := ba_12.cell0; have kc_ba1 := ba_12.cell1; have kc_ba2 := ba_12.cell2; have kl_bb := bb_12.lt; have km_bb := Nat.ne_of_lt bb_12.lt; have kn_bb := Nat.ne_of_gt bb_12.lt; have kc_bb0 := bb_12.cell0; have kc_bb1 := bb_12.cell1; have kc_bb2 := bb_12.cell2; have kl_bs := bs_12.lt; have km_bs := Nat.ne_of_lt bs_12.lt; have kn_bs := Nat.ne_of_gt bs_12.lt; have kc_bs0 := bs_12.cell0; have kc_bs1 := bs_12.cell1; have kc_bs2 := bs_12.cell2; have kl_bp := bp_12.lt; have km_bp := Nat.ne_of_lt bp_12.lt; have kn_bp := Nat.ne_of_gt bp_12.lt; have kc_bp0 := bp_12.cell0; have kc_bp1 := bp_12.cell1; have kc_bp2 := bp_12.cell2; have kl0 := z1_12.lt; have km0 := Nat.ne_of_lt z1_12.lt; have kn0 := Nat.ne_of_gt z1_12.lt; have kl1 := z2_12.lt; have km1 := Nat.ne_of_lt z2_12.lt; have kn1 := Nat.ne_of_gt z2_12.lt)
        | (go_at_call 23; (with_reducible refine (ryrat _ _ _ _ _ q _ k_11 qm8 HX2.out).mono ?_); rintro e w12 ⟨s12, A12, n12, c12, B12, m12, d12, rfl, ry, b12⟩; have h_12 := h_11.below b12; have k_12 := k_11.below b12; have ys1_12 := ys1_11.below b12; have yp1_12 := yp1_11.below b12; have rx_12 := rx.below b12; have ba_12 := ba_11.below b12 ba_11.lt; have bb_12 := bb_11.below b12 bb_11.lt; have bs_12 := bs_11.below b12 bs_11.lt; have bp_12 := bp_11.below b12 bp_11.lt; have z1_12 := z1_11.below b12 z1_11.lt; have zk0_0 := z1_12.cell0; have zf0_0 := z1_12.frozen 0; have zk0_1 := z1_12.cell1; have zf0_1 := z1_12.frozen 1; have zk0_2 := z1_12.cell2; have zf0_2 := z1_12.frozen 2; have F12 := below_then F11 (Nat.le_refl _) b12; have kl_ba := ba_12.lt; have km_ba := Nat.ne_of_lt ba_12.lt; have kn_ba := Nat.ne_of_gt ba_12.lt; have kc_ba0 := ba_12.cell0; have kc_ba1 := ba_12.cell1; have kc_ba2 := ba_12.cell2; have kl_bb := bb_12.lt; have km_bb := Nat.ne_of_lt bb_12.lt; have kn_bb := Nat.ne_of_gt bb_12.lt; have kc_bb0 := bb_12.cell0; have kc_bb1 := bb_12.cell1; have kc_bb2 := bb_12.cell2; have kl_bs := bs_12.lt; have km_bs := Nat.ne_of_lt bs_12.lt; have kn_bs := Nat.ne_of_gt bs_12.lt; have kc_bs0 := bs_12.cell0; have kc_bs1 := bs_12.cell1; have kc_bs2 := bs_12.cell2; have kl_bp := bp_12.lt; have km_bp := Nat.ne_of_lt bp_12.lt; have kn_bp := Nat.ne_of_gt bp_12.lt; have kc_bp0 := bp_12.cell0; have kc_bp1 := bp_12.cell1; have kc_bp2 := bp_12.cell2; have kl0 := z1_12.lt; have km0 := Nat.ne_of_lt z1_12.lt; have kn0 := Nat.ne_of_gt z1_12.lt)
        | (have qx_ba := ba_11.lt; have qx_bb := bb_11.lt; have qx_bs := bs_11.lt; have qx_bp := bp_11.lt; have qz_z1_11 := z1_11.lt; have lz2_ba : w.heap.size ≠ w11.heap.size := (by omega); have ly2_ba := Ne.symm lz2_ba; have lz2_bb : w.heap.size + 1 ≠ w11.heap.size := (by omega); have ly2_bb := Ne.symm lz2_bb; have lz2_bs : w6.heap.size ≠ w11.heap.size := (by omega); have ly2_bs := Ne.symm lz2_bs; have lz2_bp : w8.heap.size ≠ w11.heap.size := (by omega); have ly2_bp := Ne.symm lz2_bp; have gl2 : w.heap.size ≤ w11.heap.size := (by have := F11.size; omega); have lzz1_2 := Nat.ne_of_lt (Nat.lt_of_lt_of_le qz_z1_11 (show w11.heap.size ≤ w11.heap.size by omega)); have lyy1_2 := Ne.symm lzz1_2; have h_11a := h_11.alloc EQ0; have k_11a := k_11.alloc EQ0; have ys1_11a := ys1_11.alloc EQ0; have yp1_11a := yp1_11.alloc EQ0; have rx_11a := rx.alloc EQ0; have ba_11a := ba_11.alloc EQ0; have bb_11a := bb_11.alloc EQ0; have bs_11a := bs_11.alloc EQ0; have bp_11a := bp_11.alloc EQ0; have z1_11a := z1_11.alloc EQ0; have z2_11a : Sq ((w11).alloc EQ0) (w11.heap.size) (.bool false) (.slice none 0 0) (.slice none 0 0) := (by (have h_ := Sq.new (w11) (.bool false) (.slice none 0 0) (.slice none 0 0); exact h_)); have F_11a := F11.alloc F11.size EQ0; go_at_call 23; (with_reducible refine (ryrat _ _ _ _ _ q _ k_11a qm8 HX2.out).mono ?_); rintro e w12 ⟨s12, A12, n12, c12, B12, m12, d12, rfl, ry, b12⟩; have h_12 := h_11a.below b12; have k_12 := k_11a.below b12; have ys1_12 := ys1_11a.below b12; have yp1_12 := yp1_11a.below b12; have rx_12 := rx_11a.below b12; have ba_12 := ba_11a.below b12 ba_11a.lt; have bb_12 := bb_11a.below b12 bb_11a.lt; have bs_12 := bs_11a.below b12 bs_11a.lt; have bp_12 := bp_11a.below b12 bp_11a.lt; have z1_12 := z1_11a.below b12 z1_11a.lt; have z2_12 := z2_11a.below b12 z2_11a.lt; have zk0_0 := z1_12.cell0; have zf0_0 := z1_12.frozen 0; have zk0_1 := z1_12.cell1; have zf0_1 := z1_12.frozen 1; have zk0_2 := z1_12.cell2; have zf0_2 := z1_12.frozen 2; have zk1_0 := z2_12.cell0; have zf1_0 := z2_12.frozen 0; have zk1_1 := z2_12.cell1; have zf1_1 := z2_12.frozen 1; have zk1_2 := z2_12.cell2; have zf1_2 := z2_12.frozen 2; have F12 := below_then F_11a (Nat.le_refl _) b12; have kl_ba := ba_12.lt; have km_ba := Nat.ne_of_lt ba_12.lt; have kn_ba := Nat.ne_of_gt ba_12.lt; have kc_ba0 := ba_12.cell0; have kc_ba1 := ba_12.cell1; have kc_ba2 := ba_12.cell2; have kl_bb := bb_12.lt; have km_bb := Nat.ne_of_lt bb_12.lt; have kn_bb := Nat.ne_of_gt bb_12.lt; have kc_bb0 := bb_12.cell0; have kc_bb1 := bb_12.cell1; have kc_bb2 := bb_12.cell2; have kl_bs := bs_12.lt; have km_bs := Nat.ne_of_lt bs_12.lt; have kn_bs := Nat.ne_of_gt bs_12.lt; have kc_bs0 := bs_12.cell0; have kc_bs1 := bs_12.cell1; have kc_bs2 := bs_12.cell2; have kl_bp := bp_12.lt; have km_bp := Nat.ne_of_lt bp_12.lt; have kn_bp := Nat.ne_of_gt bp_12.lt; have kc_bp0 := bp_12.cell0; have kc_bp1 := bp_12.cell1; have kc_bp2 := bp_12.cell2; have kl0 := z1_12.lt; have km0 := Nat.ne_of_lt z1_12.lt; have kn0 := Nat.ne_of_gt z1_12.lt; have kl1 := z2_12.lt; have km1 := Nat.ne_of_lt z2_12.lt; have kn1 := Nat.ne_of_gt z2_12.lt)
        | (go_at_call 23; (with_reducible refine (ryrat _ _ _ _ _ q _ k_11 qm8 HX2.out).mono ?_); rintro e w12 ⟨s12, A12, n12, c12, B12, m12, d12, rfl, ry, b12⟩; have h_12 := h_11.below b12; have k_12 := k_11.below b12; have ys1_12 := ys1_11.below b12; have yp1_12 := yp1_11.below b12; have rx_12 := rx.below b12; have ba_12 := ba_11.below b12 ba_11.lt; have bb_12 := bb_11.below b12 bb_11.lt; have bs_12 := bs_11.below b12 bs_11.lt; have bp_12 := bp_11.below b12 bp_11.lt; have F12 := below_then F11 (Nat.le_refl _) b12; have kl_ba := ba_12.lt; have km_ba := Nat.ne_of_lt ba_12.lt; have kn_ba := Nat.ne_of_gt ba_12.lt; have kc_ba0 := ba_12.cell0; have kc_ba1 := ba_12.cell1; have kc_ba2 := ba_12.cell2; have kl_bb := bb_12.lt; have km_bb := Nat.ne_of_lt bb_12.lt; have kn_bb := Nat.ne_of_gt bb_12.lt; have kc_bb0 := bb_12.cell0; have kc_bb1 := bb_12.cell1; have kc_bb2 := bb_12.cell2; have kl_bs := bs_12.lt; have km_bs := Nat.ne_of_lt bs_12.lt; have kn_bs := Nat.ne_of_gt bs_12.lt; have kc_bs0 := bs_12.cell0; have kc_bs1 := bs_12.cell1; have kc_bs2 := bs_12.cell2; have kl_bp := bp_12.lt; have km_bp := Nat.ne_of_lt bp_12.lt; have kn_bp := Nat.ne_of_gt bp_12.lt; have kc_bp0 := bp_12.cell0; have kc_bp1 := bp_12.cell1; have kc_bp2 := bp_12.cell2)
        | (have qx_ba := ba_11.lt; have qx_bb := bb_11.lt; have qx_bs := bs_11.lt; have qx_bp := bp_11.lt; have lz1_ba : w.heap.size ≠ w11.heap.size := (by omega); have ly1_ba := Ne.symm lz1_ba; have lz1_bb : w.heap.size + 1 ≠ w11.heap.size := (by omega); have ly1_bb := Ne.symm lz1_bb; have lz1_bs : w6.heap.size ≠ w11.heap.size := (by omega); have ly1_bs := Ne.symm lz1_bs; have lz1_bp : w8.heap.size ≠ w11.heap.size := (by omega); have ly1_bp := Ne.symm lz1_bp; have gl1 : w.heap.size ≤ w11.heap.size := (by have := F11.size; omega); have h_11a := h_11.alloc EQ0; have k_11a := k_11.alloc EQ0; have ys1_11a := ys1_11.alloc EQ0; have yp1_11a := yp1_11.alloc EQ0; have rx_11a := rx.alloc EQ0; have ba_11a := ba_11.alloc EQ0; have bb_11a := bb_11.alloc EQ0; have bs_11a := bs_11.alloc EQ0; have bp_11a := bp_11.alloc EQ0; have z1_11a : Sq ((w11).alloc EQ0) (w11.heap.size) (.bool false) (.slice none 0 0) (.slice none 0 0) := (by (have h_ := Sq.new (w11) (.bool false) (.slice none 0 0) (.slice none 0 0); exact h_)); have F_11a := F11.alloc F11.size EQ0; go_at_call 23; (with_reducible refine (ryrat _ _ _ _ _ q _ k_11a qm8 HX2.out).mono ?_); rintro e w12 ⟨s12, A12, n12, c12, B12, m12, d12, rfl, ry, b12⟩; have h_12 := h_11a.below b12; have k_12 := k_11a.below b12; have ys1_12 := ys1_11a.below b12; have yp1_12 := yp1_11a.below b12; have rx_12 := rx_11a.below b12; have ba_12 := ba_11a.below b12 ba_11a.lt; have bb_12 := bb_11a.below b12 bb_11a.lt; have bs_12 := bs_11a.below b12 bs_11a.lt; have bp_12 := bp_11a.below b12 bp_11a.lt; have z1_12 := z1_11a.below b12 z1_11a.lt; have zk0_0 := z1_12.cell0; have zf0_0 := z1_12.frozen 0; have zk0_1 := z1_12.cell1; have zf0_1 := z1_12.frozen 1; have zk0_2 := z1_12.cell2; have zf0_2 := z1_12.frozen 2; have F12 := below_then F_11a (Nat.le_refl _) b12; have kl_ba := ba_12.lt; have km_ba := Nat.ne_of_lt ba_12.lt; have kn_ba := Nat.ne_of_gt ba_12.lt; have kc_ba0 := ba_12.cell0; have kc_ba1 := ba_12.cell1; have kc_ba2 := ba_12.cell2; have kl_bb := bb_12.lt; have km_bb := Nat.ne_of_lt bb_12.lt; have kn_bb := Nat.ne_of_gt bb_12.lt; have kc_bb0 := bb_12.cell0; have kc_bb1 := bb_12.cell1; have kc_bb2 := bb_12.cell2; have kl_bs := bs_12.lt; have km_bs := Nat.ne_of_lt bs_12.lt; have kn_bs := Nat.ne_of_gt bs_12.lt; have kc_bs0 := bs_12.cell0; have kc_bs1 := bs_12.cell1; have kc_bs2 := bs_12.cell2; have kl_bp := bp_12.lt; have km_bp := Nat.ne_of_lt bp_12.lt; have kn_bp := Nat.ne_of_gt bp_12.lt; have kc_bp0 := bp_12.cell0; have kc_bp1 := bp_12.cell1; have kc_bp2 := bp_12.cell2; have kl0 := z1_12.lt; have km0 := Nat.ne_of_lt z1_12.lt; have kn0 := Nat.ne_of_gt z1_12.lt)
        | (have qx_ba := ba_11.lt; have qx_bb := bb_11.lt; have qx_bs := bs_11.lt; have qx_bp := bp_11.lt; have lz1_ba : w.heap.size ≠ w11.heap.size := (by omega); have ly1_ba := Ne.symm lz1_ba; have lz1_bb : w.heap.size + 1 ≠ w11.heap.size := (by omega); have ly1_bb := Ne.symm lz1_bb; have lz1_bs : w6.heap.size ≠ w11.heap.size := (by omega); have ly1_bs := Ne.symm lz1_bs; have lz1_bp : w8.heap.size ≠ w11.heap.size := (by omega); have ly1_bp := Ne.symm lz1_bp; have gl1 : w.heap.size ≤ w11.heap.size := (by have := F11.size; omega); have h_11a := h_11.alloc EQ0; have k_11a := k_11.alloc EQ0; have ys1_11a := ys1_11.alloc EQ0; have yp1_11a := yp1_11.alloc EQ0; have rx_11a := rx.alloc EQ0; have ba_11a := ba_11.alloc EQ0; have bb_11a := bb_11.alloc EQ0; have bs_11a := bs_11.alloc EQ0; have bp_11a := bp_11.alloc EQ0; have z1_11a : Sq ((w11).alloc EQ0) (w11.heap.size) (.bool false) (.slice none 0 0) (.slice none 0 0) := (by (have h_ := Sq.new (w11) (.bool false) (.slice none 0 0) (.slice none 0 0); exact h_)); have F_11a := F11.alloc F11.size EQ0; have lz2_ba : w.heap.size ≠ w11.heap.size + 1 := (by omega); have ly2_ba := Ne.symm lz2_ba; have lz2_bb : w.heap.size + 1 ≠ w11.heap.size + 1 := (by omega); have ly2_bb := Ne.symm lz2_bb; have lz2_bs : w6.heap.size ≠ w11.heap.size + 1 := (by omega); have ly2_bs := Ne.symm lz2_bs; have lz2_bp : w8.heap.size ≠ w11.heap.size + 1 := (by omega); have ly2_bp := Ne.symm lz2_bp; have gl2 : w.heap.size ≤ w11.heap.size + 1 := (by have := F11.size; omega); have lzz1_2 : w11.heap.size ≠ w11.heap.size + 1 := (by omega); have lyy1_2 := Ne.symm lzz1_2; have h_11b := h_11a.alloc EQ0; have k_11b := k_11a.alloc EQ0; have ys1_11b := ys1_11a.alloc EQ0; have yp1_11b := yp1_11a.alloc EQ0; have rx_11b := rx_11a.alloc EQ0; have ba_11b := ba_11a.alloc EQ0; have bb_11b := bb_11a.alloc EQ0; have bs_11b := bs_11a.alloc EQ0; have bp_11b := bp_11a.alloc EQ0; have z1_11b := z1_11a.alloc EQ0; have z2_11b : Sq (((w11).alloc EQ0).alloc EQ0) (w11.heap.size + 1) (.bool false) (.slice none 0 0) (.slice none 0 0) := (by (have h_ := Sq.new ((w11).alloc EQ0) (.bool false) (.slice none 0 0) (.slice none 0 0); simp only [World.size_alloc] at h_; exact h_)); have F_11b := F_11a.alloc F_11a.size EQ0; go_at_call 23; (with_reducible refine (ryrat _ _ _ _ _ q _ k_11b qm8 HX2.out).mono ?_); rintro e w12 ⟨s12, A12, n12, c12, B12, m12, d12, rfl, ry, b12⟩; have h_12 := h_11b.below b12; have k_12 := k_11b.below b12; have ys1_12 := ys1_11b.below b12; have yp1_12 := yp1_11b.below b12; have rx_12 := rx_11b.below b12; have ba_12 := ba_11b.below b12 ba_11b.lt; have bb_12 := bb_11b.below b12 bb_11b.lt; have bs_12 := bs_11b.below b12 bs_11b.lt; have bp_12 := bp_11b.below b12 bp_11b.lt; have z1_12 := z1_11b.below b12 z1_11b.lt; have z2_12 := z2_11b.below b12 z2_11b.lt; have zk0_0 := z1_12.cell0; have zf0_0 := z1_12.frozen 0; have zk0_1 := z1_12.cell1; have zf0_1 := z1_12.frozen 1; have zk0_2 := z1_12.cell2; have zf0_2 := z1_12.frozen 2; have zk1_0 := z2_12.cell0; have zf1_0 := z2_12.frozen 0; have zk1_1 := z2_12.cell1; have zf1_1 := z2_12.frozen 1; have zk1_2 := z2_12.cell2; have zf1_2 := z2_12.frozen 2; have F12 := below_then F_11b (Nat.le_refl _) b12; have kl_ba := ba_12.lt; have km_ba := Nat.ne_of_lt ba_12.lt; have kn_ba := Nat.ne_of_gt ba_12.lt; have kc_ba0 := ba_12.cell0; have kc_ba1 := ba_12.cell1; have kc_ba2 := ba_12.cell2; have kl_bb := bb_12.lt; have km_bb := Nat.ne_of_lt bb_12.lt; have kn_bb := Nat.ne_of_gt bb_12.lt; have kc_bb0 := bb_12.cell0; have kc_bb1 := bb_12.cell1; have kc_bb2 := bb_12.cell2; have kl_bs := bs_12.lt; have km_bs := Nat.ne_of_lt bs_12.lt; have kn_bs := Nat.ne_of_gt bs_12.lt; have kc_bs0 := bs_12.cell0; have kc_bs1 := bs_12.cell1; have kc_bs2 := bs_12.cell2; have kl_bp := bp_12.lt; have km_bp := Nat.ne_of_lt bp_12.lt; have kn_bp := Nat.ne_of_gt bp_12.lt; have kc_bp0 := bp_12.cell0; have kc_bp1 := bp_12.cell1; have kc_bp2 := bp_12.cell2; have kl0 := z1_12.lt; have km0 := Nat.ne_of_lt z1_12.lt; have kn0 := Nat.ne_of_gt z1_12.lt; have kl1 := z2_12.lt; have km1 := Nat.ne_of_lt z2_12.lt; have kn1 := Nat.ne_of_gt z2_12.lt)
        | fail)
    all_goals (go_wp2_with fail; go_meet; first | with_reducible exact ⟨_, _, _, _, _, _, _, _, _, _, _, _, _, _, _, _, _, rfl, rfl, rfl, z1_12.stor.past lzz1_2, (z2_12.past lyy1_2).stor, (ba_12.past lz1_ba).past lz2_ba, (bb_12.past lz1_bb).past lz2_bb, (bs_12.past lz1_bs).past lz2_bs, (bp_12.past lz1_bp).past lz2_bp, (h_12.storQ z1_12 (.bool s11) (.slice A11 n11 c11) (.slice B11 m11 d11)).storQ (z2_12.past lyy1_2) (.bool s12) (.slice A12 n12 c12) (.slice B12 m12 d12), (k_12.storQ z1_12 (.bool s11) (.slice A11 n11 c11) (.slice B11 m11 d11)).storQ (z2_12.past lyy1_2) (.bool s12) (.slice A12 n12 c12) (.slice B12 m12 d12), (ys1_12.storQ z1_12 (.bool s11) (.slice A11 n11 c11) (.slice B11 m11 d11)).storQ (z2_12.past lyy1_2) (.bool s12) (.slice A12 n12 c12) (.slice B12 m12 d12), (yp1_12.storQ z1_12 (.bool s11) (.slice A11 n11 c11) (.slice B11 m11 d11)).storQ (z2_12.past lyy1_2) (.bool s12) (.slice A12 n12 c12) (.slice B12 m12 d12), (rx_12.storQ z1_12 (.bool s11) (.slice A11 n11 c11) (.slice B11 m11 d11)).storQ (z2_12.past lyy1_2) (.bool s12) (.slice A12 n12 c12) (.slice B12 m12 d12), (ry.storQ z1_12 (.bool s11) (.slice A11 n11 c11) (.slice B11 m11 d11)).storQ (z2_12.past lyy1_2) (.bool s12) (.slice A12 n12 c12) (.slice B12 m12 d12), below_storQ (below_storQ F12 gl1) gl2⟩ | with_reducible exact ⟨_, _, _, _, _, _, _, _, _, _, _, _, _, _, _, _, _, rfl, rfl, rfl, (z1_12.past lzz1_2).stor, z2_12.stor.past lyy1_2, (ba_12.past lz2_ba).past lz1_ba, (bb_12.past lz2_bb).past lz1_bb, (bs_12.past lz2_bs).past lz1_bs, (bp_12.past lz2_bp).past lz1_bp, (h_12.storQ z2_12 (.bool s12) (.slice A12 n12 c12) (.slice B12 m12 d12)).storQ (z1_12.past lzz1_2) (.bool s11) (.slice A11 n11 c11) (.slice B11 m11 d11), (k_12.storQ z2_12 (.bool s12) (.slice A12 n12 c12) (.slice B12 m12 d12)).storQ (z1_12.past lzz1_2) (.bool s11) (.slice A11 n11 c11) (.slice B11 m11 d11), (ys1_12.storQ z2_12 (.bool s12) (.slice A12 n12 c12) (.slice B12 m12 d12)).storQ (z1_12.past lzz1_2) (.bool s11) (.slice A11 n11 c11) (.slice B11 m11 d11), (yp1_12.storQ z2_12 (.bool s12) (.slice A12 n12 c12) (.slice B12 m12 d12)).storQ (z1_12.past lzz1_2) (.bool s11) (.slice A11 n11 c11) (.slice B11 m11 d11), (rx_12.storQ z2_12 (.bool s12) (.slice A12 n12 c12) (.slice B12 m12 d12)).storQ (z1_12.past lzz1_2) (.bool s11) (.slice A11 n11 c11) (.slice B11 m11 d11), (ry.storQ z2_12 (.bool s12) (.slice A12 n12 c12) (.slice B12 m12 d12)).storQ (z1_12.past lzz1_2) (.bool s11) (.slice A11 n11 c11) (.slice B11 m11 d11), below_storQ (below_storQ F12 gl2) gl1⟩ | with_reducible exact ⟨_, _, _, _, _, _, _, _, _, _, _, _, _, _, _, _, _, rfl, rfl, rfl, z2_12.stor.past lyy1_2, (z1_12.past lzz1_2).stor, (ba_12.past lz2_ba).past lz1_ba, (bb_12.past lz2_bb).past lz1_bb, (bs_12.past lz2_bs).past lz1_bs, (bp_12.past lz2_bp).past lz1_bp, (h_12.storQ z2_12 (.bool s11) (.slice A11 n11 c11) (.slice B11 m11 d11)).storQ (z1_12.past lzz1_2) (.bool s12) (.slice A12 n12 c12) (.slice B12 m12 d12), (k_12.storQ z2_12 (.bool s11) (.slice A11 n11 c11) (.slice B11 m11 d11)).storQ (z1_12.past lzz1_2) (.bool s12) (.slice A12 n12 c12) (.slice B12 m12 d12), (ys1_12.storQ z2_12 (.bool s11) (.slice A11 n11 c11) (.slice B11 m11 d11)).storQ (z1_12.past lzz1_2) (.bool s12) (.slice A12 n12 c12) (.slice B12 m12 d12), (yp1_12.storQ z2_12 (.bool s11) (.slice A11 n11 c11) (.slice B11 m11 d11)).storQ (z1_12.past lzz1_2) (.bool s12) (.slice A12 n12 c12) (.slice B12 m12 d12), (rx_12.storQ z2_12 (.bool s11) (.slice A11 n11 c11) (.slice B11 m11 d11)).storQ (z1_12.past lzz1_2) (.bool s12) (.slice A12 n12 c12) (.slice B12 m12 d12), (ry.storQ z2_12 (.bool s11) (.slice A11 n11 c11) (.slice B11 m11 d11)).storQ (z1_12.past lzz1_2) (.bool s12) (.slice A12 n12 c12) (.slice B12 m12 d12), below_storQ (below_storQ F12 gl2) gl1⟩ | with_reducible exact ⟨_, _, _, _, _, _, _, _, _, _, _, _, _, _, _, _, _, rfl, rfl, rfl, (z2_12.past lyy1_2).stor, z1_12.stor.past lzz1_2, (ba_12.past lz1_ba).past lz2_ba, (bb_12.past lz1_bb).past lz2_bb, (bs_12.past lz1_bs).past lz2_bs, (bp_12.past lz1_bp).past lz2_bp, (h_12.storQ z1_12 (.bool s12) (.slice A12 n12 c12) (.slice B12 m12 d12)).storQ (z2_12.past lyy1_2) (.bool s11) (.slice A11 n11 c11) (.slice B11 m11 d11), (k_12.storQ z1_12 (.bool s12) (.slice A12 n12 c12) (.slice B12 m12 d12)).storQ (z2_12.past lyy1_2) (.bool s11) (.slice A11 n11 c11) (.slice B11 m11 d11), (ys1_12.storQ z1_12 (.bool s12) (.slice A12 n12 c12) (.slice B12 m12 d12)).storQ (z2_12.past lyy1_2) (.bool s11) (.slice A11 n11 c11) (.slice B11 m11 d11), (yp1_12.storQ z1_12 (.bool s12) (.slice A12 n12 c12) (.slice B12 m12 d12)).storQ (z2_12.past lyy1_2) (.bool s11) (.slice A11 n11 c11) (.slice B11 m11 d11), (rx_12.storQ z1_12 (.bool s12) (.slice A12 n12 c12) (.slice B12 m12 d12)).storQ (z2_12.past lyy1_2) (.bool s11) (.slice A11 n11 c11) (.slice B11 m11 d11), (ry.storQ z1_12 (.bool s12) (.slice A12 n12 c12) (.slice B12 m12 d12)).storQ (z2_12.past lyy1_2) (.bool s11) (.slice A11 n11 c11) (.slice B11 m11 d11), below_storQ (below_storQ F12 gl1) gl2⟩ | with_reducible exact ⟨_, _, _, _, _, _, _, _, _, _, _, _, _, _, _, _, _, rfl, rfl, rfl, (z1_12.stor).alloc _, Sq_at (Sq.new _ _ _ _) (by simp [World.setCell]), (ba_12.past lz1_ba).alloc _, (bb_12.past lz1_bb).alloc _, (bs_12.past lz1_bs).alloc _, (bp_12.past lz1_bp).alloc _, (h_12.storQ z1_12 (.bool s11) (.slice A11 n11 c11) (.slice B11 m11 d11)).alloc _, (k_12.storQ z1_12 (.bool s11) (.slice A11 n11 c11) (.slice B11 m11 d11)).alloc _, (ys1_12.storQ z1_12 (.bool s11) (.slice A11 n11 c11) (.slice B11 m11 d11)).alloc _, (yp1_12.storQ z1_12 (.bool s11) (.slice A11 n11 c11) (.slice B11 m11 d11)).alloc _, (rx_12.storQ z1_12 (.bool s11) (.slice A11 n11 c11) (.slice B11 m11 d11)).alloc _, (ry.storQ z1_12 (.bool s11) (.slice A11 n11 c11) (.slice B11 m11 d11)).alloc _, (below_storQ F12 gl1).alloc (below_storQ F12 gl1).size _⟩ | with_reducible exact ⟨_, _, _, _, _, _, _, _, _, _, _, _, _, _, _, _, _, rfl, rfl, rfl, Sq_at (Sq.new _ _ _ _) (by simp [World.setCell]), (z1_12.stor).alloc _, (ba_12.past lz1_ba).alloc _, (bb_12.past lz1_bb).alloc _, (bs_12.past lz1_bs).alloc _, (bp_12.past lz1_bp).alloc _, (h_12.storQ z1_12 (.bool s12) (.slice A12 n12 c12) (.slice B12 m12 d12)).alloc _, (k_12.storQ z1_12 (.bool s12) (.slice A12 n12 c12) (.slice B12 m12 d12)).alloc _, (ys1_12.storQ z1_12 (.bool s12) (.slice A12 n12 c12) (.slice B12 m12 d12)).alloc _, (yp1_12.storQ z1_12 (.bool s12) (.slice A12 n12 c12) (.slice B12 m12 d12)).alloc _, (rx_12.storQ z1_12 (.bool s12) (.slice A12 n12 c12) (.slice B12 m12 d12)).alloc _, (ry.storQ z1_12 (.bool s12) (.slice A12 n12 c12) (.slice B12 m12 d12)).alloc _, (below_storQ F12 gl1).alloc (below_storQ F12 gl1).size _⟩ | with_reducible exact ⟨_, _, _, _, _, _, _, _, _, _, _, _, _, _, _, _, _, rfl, rfl, rfl, (Sq.new _ _ _ _).alloc _, Sq_at (Sq.new _ _ _ _) (by simp), (ba_12.alloc _).alloc _, (bb_12.alloc _).alloc _, (bs_12.alloc _).alloc _, (bp_12.alloc _).alloc _, (h_12.alloc _).alloc _, (k_12.alloc _).alloc _, (ys1_12.alloc _).alloc _, (yp1_12.alloc _).alloc _, (rx_12.alloc _).alloc _, (ry.alloc _).alloc _, (F12.alloc F12.size _).alloc (F12.alloc F12.size _).size _⟩ | with_reducible exact ⟨_, _, _, _, _, _, _, _, _, _, _, _, _, _, _, _, _, rfl, rfl, rfl, Sq_at (Sq.new _ _ _ _) (by simp), (Sq.new _ _ _ _).alloc _, (ba_12.alloc _).alloc _, (bb_12.alloc _).alloc _, (bs_12.alloc _).alloc _, (bp_12.alloc _).alloc _, (h_12.alloc _).alloc _, (k_12.alloc _).alloc _, (ys1_12.alloc _).alloc _, (yp1_12.alloc _).alloc _, (rx_12.alloc _).alloc _, (ry.alloc _).alloc _, (F12.alloc F12.size _).alloc (F12.alloc F12.size _).size _⟩ | fail)
  case rest =>
    obtain ⟨W', gx, gy, s1_, A1_, n1_, c1_, B1_, m1_, d1_, s2_, A2_, n2_, c2_, B2_, m2_, d2_, rfl, rfl, rfl, hgx, hgy, ba_13, bb_13, bs_13, bp_13, h_13, k_13, ys1_13, yp1_13, rx_13, ry_13, F13⟩ := hcut
    have ba_u13 := ba_13.cell0
    have ba_v13 := ba_13.cell1
    have ba_w13 := ba_13.cell2
    have bb_u13 := bb_13.cell0
    have bb_v13 := bb_13.cell1
    have bb_w13 := bb_13.cell2
    have bs_u13 := bs_13.cell0
    have bs_v13 := bs_13.cell1
    have bs_w13 := bs_13.cell2
    have bp_u13 := bp_13.cell0
    have bp_v13 := bp_13.cell1
    have bp_w13 := bp_13.cell2
    have qx_u13 := hgx.cell0
    have qx_v13 := hgx.cell1
    have qx_w13 := hgx.cell2
    have qy_u13 := hgy.cell0
    have qy_v13 := hgy.cell1
    have qy_w13 := hgy.cell2
    go_wp2_with fail
    have h_14 := h_13.drew
    have k_14 := k_13.drew
    have ys1_14 := ys1_13.drew
    have yp1_14 := yp1_13.drew
    have rx_14 := rx_13.drew
    have ry_14 := ry_13.drew
    have ba_14 := ba_13.drew
    have bb_14 := bb_13.drew
    have bs_14 := bs_13.drew
    have bp_14 := bp_13.drew
    have qx_14 := hgx.drew
    have qy_14 := hgy.drew
    have F14 := F13.drew
    go_region_held3 (fun w' => w'.cell? ⟨w.heap.size, 0, none⟩ = some (.bool s) ∧ w'.cell? ⟨w.heap.size, 1, none⟩ = some (.slice A n c) ∧ w'.cell? ⟨w.heap.size, 2, none⟩ = some (.int .i64 e) ∧ w'.cell? ⟨w.heap.size + 1, 0, none⟩ = some (.bool t) ∧ w'.cell? ⟨w.heap.size + 1, 1, none⟩ = some (.slice B m d) ∧ w'.cell? ⟨w.heap.size + 1, 2, none⟩ = some (.int .i64 x) ∧ w'.cell? ⟨w6.heap.size, 0, none⟩ = some (.bool s6) ∧ w'.cell? ⟨w6.heap.size, 1, none⟩ = some (.slice A6 n6 c6) ∧ w'.cell? ⟨w6.heap.size, 2, none⟩ = some (.int .i64 x6) ∧ w'.cell? ⟨w8.heap.size, 0, none⟩ = some (.bool s8) ∧ w'.cell? ⟨w8.heap.size, 1, none⟩ = some (.slice A8 n8 c8) ∧ w'.cell? ⟨w8.heap.size, 2, none⟩ = some (.int .i64 x8) ∧ w'.cell? ⟨gx, 0, none⟩ = some (.bool s1_) ∧ w'.cell? ⟨gx, 1, none⟩ = some (.slice A1_ n1_ c1_) ∧ w'.cell? ⟨gx, 2, none⟩ = some (.slice B1_ m1_ d1_) ∧ w'.cell? ⟨gy, 0, none⟩ = some (.bool s2_) ∧ w'.cell? ⟨gy, 1, none⟩ = some (.slice A2_ n2_ c2_) ∧ w'.cell? ⟨gy, 2, none⟩ = some (.slice B2_ m2_ d2_))
      (first
        | with_reducible exact ⟨ba_18.cell0, ba_18.cell1, ba_18.cell2, bb_18.cell0, bb_18.cell1, bb_18.cell2, bs_18.cell0, bs_18.cell1, bs_18.cell2, bp_18.cell0, bp_18.cell1, bp_18.cell2, qx_18.cell0, qx_18.cell1, qx_18.cell2, qy_18.cell0, qy_18.cell1, qy_18.cell2⟩
        | with_reducible exact ⟨ba_17.cell0, ba_17.cell1, ba_17.cell2, bb_17.cell0, bb_17.cell1, bb_17.cell2, bs_17.cell0, bs_17.cell1, bs_17.cell2, bp_17.cell0, bp_17.cell1, bp_17.cell2, qx_17.cell0, qx_17.cell1, qx_17.cell2, qy_17.cell0, qy_17.cell1, qy_17.cell2⟩
        | with_reducible exact ⟨ba_16.cell0, ba_16.cell1, ba_16.cell2, bb_16.cell0, bb_16.cell1, bb_16.cell2, bs_16.cell0, bs_16.cell1, bs_16.cell2, bp_16.cell0, bp_16.cell1, bp_16.cell2, qx_16.cell0, qx_16.cell1, qx_16.cell2, qy_16.cell0, qy_16.cell1, qy_16.cell2⟩
        | with_reducible exact ⟨ba_15.cell0, ba_15.cell1, ba_15.cell2, bb_15.cell0, bb_15.cell1, bb_15.cell2, bs_15.cell0, bs_15.cell1, bs_15.cell2, bp_15.cell0, bp_15.cell1, bp_15.cell2, qx_15.cell0, qx_15.cell1, qx_15.cell2, qy_15.cell0, qy_15.cell1, qy_15.cell2⟩
        | with_reducible exact ⟨ba_14.cell0, ba_14.cell1, ba_14.cell2, bb_14.cell0, bb_14.cell1, bb_14.cell2, bs_14.cell0, bs_14.cell1, bs_14.cell2, bp_14.cell0, bp_14.cell1, bp_14.cell2, qx_14.cell0, qx_14.cell1, qx_14.cell2, qy_14.cell0, qy_14.cell1, qy_14.cell2⟩
        | fail)
      (first
        | (go_at_call 15; (with_reducible refine (yvalid_at _ _ _ _ _ _ true _ (cy_vb ys1_14 (by rw [HES.out]; exact HDs.out)) ys1_14.rd (Nat.le_trans ns8 (by decide))).mono ?_); rintro e w15 ⟨rfl, b15⟩; have h_15 := h_14.below b15; have k_15 := k_14.below b15; have ys1_15 := ys1_14.below b15; have yp1_15 := yp1_14.below b15; have rx_15 := rx_14.below b15; have ry_15 := ry_14.below b15; have ba_15 := ba_14.below b15 ba_14.lt; have bb_15 := bb_14.below b15 bb_14.lt; have bs_15 := bs_14.below b15 bs_14.lt; have bp_15 := bp_14.below b15 bp_14.lt; have qx_15 := qx_14.below b15 qx_14.lt; have qy_15 := qy_14.below b15 qy_14.lt; have F15 := below_then F14 (Nat.le_refl _) b15)
        | (go_at_call 15; (with_reducible refine (yvalid_at _ _ _ _ _ _ true _ (cy_vb yp1_15 (by rw [HEM.out]; exact HDm.out)) yp1_15.rd (Nat.le_trans np8 (by decide))).mono ?_); rintro e w16 ⟨rfl, b16⟩; have h_16 := h_15.below b16; have k_16 := k_15.below b16; have ys1_16 := ys1_15.below b16; have yp1_16 := yp1_15.below b16; have rx_16 := rx_15.below b16; have ry_16 := ry_15.below b16; have ba_16 := ba_15.below b16 ba_15.lt; have bb_16 := bb_15.below b16 bb_15.lt; have bs_16 := bs_15.below b16 bs_15.lt; have bp_16 := bp_15.below b16 bp_15.lt; have qx_16 := qx_15.below b16 qx_15.lt; have qy_16 := qy_15.below b16 qy_15.lt; have F16 := below_then F15 (Nat.le_refl _) b16)
        | (go_at_call 37; (with_reducible refine (ycmp_q _ _ _ _ _ _ _ _ _ _ p q r _ HR.out h_16 k_16 HA.out.1 HB.out.1 HA.out.2.1 HB.out.2.1).mono ?_); rintro e w17 ⟨rfl, b17⟩; have h_17 := h_16.below b17; have k_17 := k_16.below b17; have ys1_17 := ys1_16.below b17; have yp1_17 := yp1_16.below b17; have rx_17 := rx_16.below b17; have ry_17 := ry_16.below b17; have ba_17 := ba_16.below b17 ba_16.lt; have bb_17 := bb_16.below b17 bb_16.lt; have bs_17 := bs_16.below b17 bs_16.lt; have bp_17 := bp_16.below b17 bp_16.lt; have qx_17 := qx_16.below b17 qx_16.lt; have qy_17 := qy_16.below b17 qy_16.lt; have F17 := below_then F16 (Nat.le_refl _) b17)
        | (go_at_call 30; (with_reducible refine (rcmp_q _ _ _ _ _ _ _ _ _ _ _ _ _ _ p q r _ HR.out rx_17.iq ry_17.iq (Nat.le_trans (rx_17.ln hp1) k10) (Nat.le_trans (rx_17.ld hp2) k10) (Nat.le_trans (ry_17.ln hq1) k10) (Nat.le_trans (ry_17.ld hq2) k10)).mono ?_); rintro e w18 ⟨rfl, b18⟩; have h_18 := h_17.below b18; have k_18 := k_17.below b18; have ys1_18 := ys1_17.below b18; have yp1_18 := yp1_17.below b18; have rx_18 := rx_17.below b18; have ry_18 := ry_17.below b18; have ba_18 := ba_17.below b18 ba_17.lt; have bb_18 := bb_17.below b18 bb_17.lt; have bs_18 := bs_17.below b18 bs_17.lt; have bp_18 := bp_17.below b18 bp_17.lt; have qx_18 := qx_17.below b18 qx_17.lt; have qy_18 := qy_17.below b18 qy_17.lt; have F18 := below_then F17 (Nat.le_refl _) b18)
        | fail)
    have ba_u18 := ba_18.cell0
    have ba_v18 := ba_18.cell1
    have ba_w18 := ba_18.cell2
    have bb_u18 := bb_18.cell0
    have bb_v18 := bb_18.cell1
    have bb_w18 := bb_18.cell2
    have bs_u18 := bs_18.cell0
    have bs_v18 := bs_18.cell1
    have bs_w18 := bs_18.cell2
    have bp_u18 := bp_18.cell0
    have bp_v18 := bp_18.cell1
    have bp_w18 := bp_18.cell2
    have qx_u18 := qx_18.cell0
    have qx_v18 := qx_18.cell1
    have qx_w18 := qx_18.cell2
    have qy_u18 := qy_18.cell0
    have qy_v18 := qy_18.cell1
    have qy_w18 := qy_18.cell2
    go_wp2_with fail
    have h_19 := h_18.drew
    have k_19 := k_18.drew
    have ys1_19 := ys1_18.drew
    have yp1_19 := yp1_18.drew
    have rx_19 := rx_18.drew
    have ry_19 := ry_18.drew
    have ba_19 := ba_18.drew
    have bb_19 := bb_18.drew
    have bs_19 := bs_18.drew
    have bp_19 := bp_18.drew
    have qx_19 := qx_18.drew
    have qy_19 := qy_18.drew
    have F19 := F18.drew
    go_region_held3 (fun w' => w'.cell? ⟨w.heap.size, 0, none⟩ = some (.bool s) ∧ w'.cell? ⟨w.heap.size, 1, none⟩ = some (.slice A n c) ∧ w'.cell? ⟨w.heap.size, 2, none⟩ = some (.int .i64 e) ∧ w'.cell? ⟨w.heap.size + 1, 0, none⟩ = some (.bool t) ∧ w'.cell? ⟨w.heap.size + 1, 1, none⟩ = some (.slice B m d) ∧ w'.cell? ⟨w.heap.size + 1, 2, none⟩ = some (.int .i64 x) ∧ w'.cell? ⟨w6.heap.size, 0, none⟩ = some (.bool s6) ∧ w'.cell? ⟨w6.heap.size, 1, none⟩ = some (.slice A6 n6 c6) ∧ w'.cell? ⟨w6.heap.size, 2, none⟩ = some (.int .i64 x6) ∧ w'.cell? ⟨w8.heap.size, 0, none⟩ = some (.bool s8) ∧ w'.cell? ⟨w8.heap.size, 1, none⟩ = some (.slice A8 n8 c8) ∧ w'.cell? ⟨w8.heap.size, 2, none⟩ = some (.int .i64 x8) ∧ w'.cell? ⟨gx, 0, none⟩ = some (.bool s1_) ∧ w'.cell? ⟨gx, 1, none⟩ = some (.slice A1_ n1_ c1_) ∧ w'.cell? ⟨gx, 2, none⟩ = some (.slice B1_ m1_ d1_) ∧ w'.cell? ⟨gy, 0, none⟩ = some (.bool s2_) ∧ w'.cell? ⟨gy, 1, none⟩ = some (.slice A2_ n2_ c2_) ∧ w'.cell? ⟨gy, 2, none⟩ = some (.slice B2_ m2_ d2_))
      (first
        | with_reducible exact ⟨ba_25.cell0, ba_25.cell1, ba_25.cell2, bb_25.cell0, bb_25.cell1, bb_25.cell2, bs_25.cell0, bs_25.cell1, bs_25.cell2, bp_25.cell0, bp_25.cell1, bp_25.cell2, qx_25.cell0, qx_25.cell1, qx_25.cell2, qy_25.cell0, qy_25.cell1, qy_25.cell2⟩
        | with_reducible exact ⟨ba_24.cell0, ba_24.cell1, ba_24.cell2, bb_24.cell0, bb_24.cell1, bb_24.cell2, bs_24.cell0, bs_24.cell1, bs_24.cell2, bp_24.cell0, bp_24.cell1, bp_24.cell2, qx_24.cell0, qx_24.cell1, qx_24.cell2, qy_24.cell0, qy_24.cell1, qy_24.cell2⟩
        | with_reducible exact ⟨ba_23.cell0, ba_23.cell1, ba_23.cell2, bb_23.cell0, bb_23.cell1, bb_23.cell2, bs_23.cell0, bs_23.cell1, bs_23.cell2, bp_23.cell0, bp_23.cell1, bp_23.cell2, qx_23.cell0, qx_23.cell1, qx_23.cell2, qy_23.cell0, qy_23.cell1, qy_23.cell2⟩
        | with_reducible exact ⟨ba_22.cell0, ba_22.cell1, ba_22.cell2, bb_22.cell0, bb_22.cell1, bb_22.cell2, bs_22.cell0, bs_22.cell1, bs_22.cell2, bp_22.cell0, bp_22.cell1, bp_22.cell2, qx_22.cell0, qx_22.cell1, qx_22.cell2, qy_22.cell0, qy_22.cell1, qy_22.cell2⟩
        | with_reducible exact ⟨ba_21.cell0, ba_21.cell1, ba_21.cell2, bb_21.cell0, bb_21.cell1, bb_21.cell2, bs_21.cell0, bs_21.cell1, bs_21.cell2, bp_21.cell0, bp_21.cell1, bp_21.cell2, qx_21.cell0, qx_21.cell1, qx_21.cell2, qy_21.cell0, qy_21.cell1, qy_21.cell2⟩
        | with_reducible exact ⟨ba_20.cell0, ba_20.cell1, ba_20.cell2, bb_20.cell0, bb_20.cell1, bb_20.cell2, bs_20.cell0, bs_20.cell1, bs_20.cell2, bp_20.cell0, bp_20.cell1, bp_20.cell2, qx_20.cell0, qx_20.cell1, qx_20.cell2, qy_20.cell0, qy_20.cell1, qy_20.cell2⟩
        | with_reducible exact ⟨ba_19.cell0, ba_19.cell1, ba_19.cell2, bb_19.cell0, bb_19.cell1, bb_19.cell2, bs_19.cell0, bs_19.cell1, bs_19.cell2, bp_19.cell0, bp_19.cell1, bp_19.cell2, qx_19.cell0, qx_19.cell1, qx_19.cell2, qy_19.cell0, qy_19.cell1, qy_19.cell2⟩
        | fail)
      (first
        | (go_at_call 23; (with_reducible refine (ryrat _ _ _ _ _ (p + q) _ ys1_19 (Nat.le_trans ns8 k8) (by rw [HES.out]; exact HDs2.out)).mono ?_); rintro e w20 ⟨s20, A20, n20, c20, B20, m20, d20, rfl, u1, b20⟩; have h_20 := h_19.below b20; have k_20 := k_19.below b20; have ys1_20 := ys1_19.below b20; have yp1_20 := yp1_19.below b20; have rx_20 := rx_19.below b20; have ry_20 := ry_19.below b20; have ba_20 := ba_19.below b20 ba_19.lt; have bb_20 := bb_19.below b20 bb_19.lt; have bs_20 := bs_19.below b20 bs_19.lt; have bp_20 := bp_19.below b20 bp_19.lt; have qx_20 := qx_19.below b20 qx_19.lt; have qy_20 := qy_19.below b20 qy_19.lt; have F20 := below_then F19 (Nat.le_refl _) b20)
        | (go_at_call 38; (with_reducible refine (radd_q _ _ _ _ _ _ _ _ _ _ _ _ _ _ p q (p + q) _ rfl rx_20.iq ry_20.iq (Nat.le_trans (rx_20.ln hp1) k10) (Nat.le_trans (rx_20.ld hp2) k10) (Nat.le_trans (ry_20.ln hq1) k10) (Nat.le_trans (ry_20.ld hq2) k10)).mono ?_); rintro e w21 ⟨s21, A21, n21, c21, B21, m21, d21, rfl, u2, b21⟩; have h_21 := h_20.below b21; have k_21 := k_20.below b21; have ys1_21 := ys1_20.below b21; have yp1_21 := yp1_20.below b21; have rx_21 := rx_20.below b21; have ry_21 := ry_20.below b21; have u1_21 := u1.below b21; have ba_21 := ba_20.below b21 ba_20.lt; have bb_21 := bb_20.below b21 bb_20.lt; have bs_21 := bs_20.below b21 bs_20.lt; have bp_21 := bp_20.below b21 bp_20.lt; have qx_21 := qx_20.below b21 qx_20.lt; have qy_21 := qy_20.below b21 qy_20.lt; have F21 := below_then F20 (Nat.le_refl _) b21)
        | (go_at_call 16; (with_reducible refine (same_q _ _ _ _ _ _ _ _ _ _ _ _ _ _ (p + q) _ u1_21 u2 (Nat.le_trans (u1_21.ln z1) k16) (Nat.le_trans (u1_21.ld z2) k16)).mono ?_); rintro e w22 ⟨rfl, b22⟩; have h_22 := h_21.below b22; have k_22 := k_21.below b22; have ys1_22 := ys1_21.below b22; have yp1_22 := yp1_21.below b22; have rx_22 := rx_21.below b22; have ry_22 := ry_21.below b22; have u1_22 := u1_21.below b22; have u2_22 := u2.below b22; have ba_22 := ba_21.below b22 ba_21.lt; have bb_22 := bb_21.below b22 bb_21.lt; have bs_22 := bs_21.below b22 bs_21.lt; have bp_22 := bp_21.below b22 bp_21.lt; have qx_22 := qx_21.below b22 qx_21.lt; have qy_22 := qy_21.below b22 qy_21.lt; have F22 := below_then F21 (Nat.le_refl _) b22)
        | (go_at_call 23; (with_reducible refine (ryrat _ _ _ _ _ (p * q) _ yp1_22 (Nat.le_trans np8 k7) (by rw [HEM.out]; exact HDm2.out)).mono ?_); rintro e w23 ⟨s23, A23, n23, c23, B23, m23, d23, rfl, u3, b23⟩; have h_23 := h_22.below b23; have k_23 := k_22.below b23; have ys1_23 := ys1_22.below b23; have yp1_23 := yp1_22.below b23; have rx_23 := rx_22.below b23; have ry_23 := ry_22.below b23; have u1_23 := u1_22.below b23; have u2_23 := u2_22.below b23; have ba_23 := ba_22.below b23 ba_22.lt; have bb_23 := bb_22.below b23 bb_22.lt; have bs_23 := bs_22.below b23 bs_22.lt; have bp_23 := bp_22.below b23 bp_22.lt; have qx_23 := qx_22.below b23 qx_22.lt; have qy_23 := qy_22.below b23 qy_22.lt; have F23 := below_then F22 (Nat.le_refl _) b23)
        | (go_at_call 33; (with_reducible refine (rmul_q _ _ _ _ _ _ _ _ _ _ _ _ _ _ p q (p * q) _ rfl rx_23.iq ry_23.iq (Nat.le_trans (rx_23.ln hp1) k10) (Nat.le_trans (rx_23.ld hp2) k10) (Nat.le_trans (ry_23.ln hq1) k10) (Nat.le_trans (ry_23.ld hq2) k10)).mono ?_); rintro e w24 ⟨s24, A24, n24, c24, B24, m24, d24, rfl, u4, b24⟩; have h_24 := h_23.below b24; have k_24 := k_23.below b24; have ys1_24 := ys1_23.below b24; have yp1_24 := yp1_23.below b24; have rx_24 := rx_23.below b24; have ry_24 := ry_23.below b24; have u1_24 := u1_23.below b24; have u2_24 := u2_23.below b24; have u3_24 := u3.below b24; have ba_24 := ba_23.below b24 ba_23.lt; have bb_24 := bb_23.below b24 bb_23.lt; have bs_24 := bs_23.below b24 bs_23.lt; have bp_24 := bp_23.below b24 bp_23.lt; have qx_24 := qx_23.below b24 qx_23.lt; have qy_24 := qy_23.below b24 qy_23.lt; have F24 := below_then F23 (Nat.le_refl _) b24)
        | (go_at_call 16; (with_reducible refine (same_q _ _ _ _ _ _ _ _ _ _ _ _ _ _ (p * q) _ u3_24 u4 (Nat.le_trans (u3_24.ln z3) k15) (Nat.le_trans (u3_24.ld z4) k15)).mono ?_); rintro e w25 ⟨rfl, b25⟩; have h_25 := h_24.below b25; have k_25 := k_24.below b25; have ys1_25 := ys1_24.below b25; have yp1_25 := yp1_24.below b25; have rx_25 := rx_24.below b25; have ry_25 := ry_24.below b25; have u1_25 := u1_24.below b25; have u2_25 := u2_24.below b25; have u3_25 := u3_24.below b25; have u4_25 := u4.below b25; have ba_25 := ba_24.below b25 ba_24.lt; have bb_25 := bb_24.below b25 bb_24.lt; have bs_25 := bs_24.below b25 bs_24.lt; have bp_25 := bp_24.below b25 bp_24.lt; have qx_25 := qx_24.below b25 qx_24.lt; have qy_25 := qy_24.below b25 qy_24.lt; have F25 := below_then F24 (Nat.le_refl _) b25)
        | fail)
    have ba_u25 := ba_25.cell0
    have ba_v25 := ba_25.cell1
    have ba_w25 := ba_25.cell2
    have bb_u25 := bb_25.cell0
    have bb_v25 := bb_25.cell1
    have bb_w25 := bb_25.cell2
    have bs_u25 := bs_25.cell0
    have bs_v25 := bs_25.cell1
    have bs_w25 := bs_25.cell2
    have bp_u25 := bp_25.cell0
    have bp_v25 := bp_25.cell1
    have bp_w25 := bp_25.cell2
    have qx_u25 := qx_25.cell0
    have qx_v25 := qx_25.cell1
    have qx_w25 := qx_25.cell2
    have qy_u25 := qy_25.cell0
    have qy_v25 := qy_25.cell1
    have qy_w25 := qy_25.cell2
    go_wp2
    go_ret
    exact ⟨rfl, F25⟩
theorem law_arithmetic (s : Bool) (A : Option Addr) (n c : Nat) (e : Int) (t : Bool) (B : Option Addr) (m d : Nat) (x : Int) (xs ys : List Nat) (w : World) (hx : Rd w A n c xs) (hy : Rd w B m d ys) (T : Tb w) : Calls Tryd.prog 8 #[.agg #[.bool s, .slice A n c, .int .i64 e], .agg #[.bool t, .slice B m d, .int .i64 x]] w (fun e w' => e = .returned (.bool true) ∧ Below w.heap.size w w') := by
  by_cases ha : (n ≤ 3 ∧ (-200 ≤ e ∧ e ≤ 200) ∧ vb s xs e = true)
  · by_cases hb : (m ≤ 3 ∧ (-200 ≤ x ∧ x ≤ 200) ∧ vb t ys x = true)
    · exact da_yes s A n c e t B m d x xs ys w hx hy ha hb T
    · exact da_b s A n c e t B m d x xs ys w hx hy ha hb T
  · exact da_a s A n c e t B m d x xs ys w hx hy ha T
end Go.Proofs.YthiapkalmmgliaaDoor
