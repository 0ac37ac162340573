/-
  The sum of a number and itself.
-/
import Derived.Test.YthiapkalmmgliaaDoorK17
namespace Go.Proofs.YthiapkalmmgliaaDoor
open Go.RowKit
set_option linter.unusedVariables false
set_option linter.unusedSimpArgs false

theorem dvl_int (Z : Int) (e : Int) : dvl (decide (Z < 0)) Z.natAbs e = (Z : Rat) * p2 e := by
  unfold dvl
  congr 2
  by_cases h : Z < 0
  · rw [decide_eq_true h, if_pos rfl]; omega
  · rw [decide_eq_false h, if_neg (by decide)]; omega
theorem dvl_twice (s : Bool) (xs : List Nat) (e : Int) : dvl (decide (iv s xs + iv s xs < 0)) (iv s xs + iv s xs).natAbs e = dvl s (val xs) e + dvl s (val xs) e := by
  rw [dvl_int, Rat.intCast_add, Rat.add_mul]
  rfl
theorem rcan_2 (s : Bool) (A : Option Addr) (n c : Nat) (Z : Int) (e : Int) (q : Rat) (w : World) (h : Cz w s A n c Z) (hn : n ≤ 1000000) (hq : dvl (decide (Z < 0)) Z.natAbs e = q) (he : -1000000000 ≤ e ∧ e ≤ 1000000000) (hr : -1048576 ≤ de q ∧ de q ≤ 1048576) :
    Calls Tryd.prog 46 #[.bool s, .slice A n c, .int .i64 e] w (GDB w q true) := by
  obtain ⟨h, rfl⟩ := h
  exact rcan_q _ _ _ _ _ _ _ _ h hn (by rw [val_dg]; exact hq) he hr
theorem rcan_2b (s : Bool) (A : Option Addr) (n c : Nat) (Z : Int) (e : Int) (q : Rat) (w : World) (h : Cz w s A n c Z) (hn : n ≤ 1000000) (hq : dvl (decide (Z < 0)) Z.natAbs e = q) (he : -1000000000 ≤ e ∧ e ≤ 1000000000) (h0 : q ≠ 0) (hr : de q < -1048576 ∨ 1048576 < de q) (hr9 : de q ≤ 1000000000) :
    Calls Tryd.prog 46 #[.bool s, .slice A n c, .int .i64 e] w (GDB w 0 false) := by
  obtain ⟨h, rfl⟩ := h
  exact rcan_bad _ _ _ _ _ _ _ _ h hn (by rw [val_dg]; exact hq) he h0 hr hr9
theorem cz_len {w : World} {s : Bool} {A : Option Addr} {n c k : Nat} {Z : Int} (h : Cz w s A n c Z) (hZ : Z.natAbs < pw k) : n ≤ k := by
  have := h.1.len
  have := len_dg_le hZ
  omega
theorem radd_zero (s : Bool) (A : Option Addr) (n c : Nat) (e : Int) (t : Bool) (B : Option Addr) (m d : Nat) (x : Int) (p : Rat) (w : World) (h : Cy w s A n c e 0) (k : Cy w t B m d x p) :
    Calls Tryd.prog 40 #[.agg #[.bool s, .slice A n c, .int .i64 e], .agg #[.bool t, .slice B m d, .int .i64 x]] w (GDE w p 0) := by
  have hn : n = 0 := by have := h.1.len; exact this.symm
  subst hn
  clear h
  have k_1 := k.alloc (EY s A 0 c e)
  have ba_1 : Sy ((w).alloc (EY s A 0 c e)) (w.heap.size) (.bool s) (.slice A 0 c) (.int .i64 e) := by have h_ := Sy.new (w) (.bool s) (.slice A 0 c) (.int .i64 e); exact h_
  have F1 := (Below.refl w.heap.size w).alloc (Nat.le_refl _) (EY s A 0 c e)
  have k_2 := k_1.alloc (EY t B m d x)
  have ba_2 := ba_1.alloc (EY t B m d x)
  have bb_2 : Sy (((w).alloc (EY s A 0 c e)).alloc (EY t B m d x)) (w.heap.size + 1) (.bool t) (.slice B m d) (.int .i64 x) := by have h_ := Sy.new ((w).alloc (EY s A 0 c e)) (.bool t) (.slice B m d) (.int .i64 x); simp only [World.size_alloc] at h_; exact h_
  have F2 := F1.alloc F1.size (EY t B m d x)
  have k_3 := k_2.alloc EY0
  have ba_3 := ba_2.alloc EY0
  have bb_3 := bb_2.alloc EY0
  have br_3 : Sy ((((w).alloc (EY s A 0 c e)).alloc (EY t B m d x)).alloc EY0) (w.heap.size + 2) (.bool false) (.slice none 0 0) (.int .i64 0) := by have h_ := Sy.new (((w).alloc (EY s A 0 c e)).alloc (EY t B m d x)) (.bool false) (.slice none 0 0) (.int .i64 0); simp only [World.size_alloc] at h_; exact h_
  have F3 := F2.alloc F2.size EY0
  go_enter Tryd.func40, Tryd.ntmps40
  have ba_u3 := ba_3.cell0
  have ba_v3 := ba_3.cell1
  have ba_w3 := ba_3.cell2
  have bb_u3 := bb_3.cell0
  have bb_v3 := bb_3.cell1
  have bb_w3 := bb_3.cell2
  have br_u3 := br_3.cell0
  have br_v3 := br_3.cell1
  have br_w3 := br_3.cell2
  go_wp2_with fail
  have Fz := F2.alloc F2.size (EY t B m d x)
  have kz := k_2.alloc (EY t B m d x)
  refine bodyPost_ret (v := .tuple #[.agg #[.bool t, .slice B m d, .int .i64 x], .int .i64 0]) (by simp [results, Tryd.results40, go_sem, (br_3.set0 (.bool t)).cell0, ((br_3.set0 (.bool t)).set1 (.slice B m d)).cell1, (((br_3.set0 (.bool t)).set1 (.slice B m d)).set2 (.int .i64 x)).cell2]) rfl ⟨_, _, _, _, _, rfl, kz, Fz⟩
set_option maxRecDepth 8000 in
set_option maxHeartbeats 4000000 in
theorem radd_self_ok (s : Bool) (A : Option Addr) (n c : Nat) (e : Int) (p : Rat) (w : World) (h : Cy w s A n c e p) (h0 : p ≠ 0) (hn : n ≤ 60000) (he : -1048576 ≤ e ∧ e ≤ 1048576) (hr : -1048576 ≤ de (p + p) ∧ de (p + p) ≤ 1048576) :
    Calls Tryd.prog 40 #[.agg #[.bool s, .slice A n c, .int .i64 e], .agg #[.bool s, .slice A n c, .int .i64 e]] w (GDE w (p + p) 0) := by
  obtain ⟨xs, hxs⟩ : ∃ xs, dg (dm p) = xs := ⟨_, rfl⟩
  obtain ⟨Z, hZ⟩ : ∃ Z, iv s xs + iv s xs = Z := ⟨_, rfl⟩
  have hv : val xs = dm p := by rw [← hxs, val_dg]
  have hl : xs.length = n := by rw [← hxs]; exact h.1.len
  have hn0 : n ≠ 0 := fun hh => h0 (dm_eq_zero.1 (by rw [← hv, List.eq_nil_of_length_eq_zero (hl.trans hh)]; rfl))
  have hq : dvl (decide (Z < 0)) Z.natAbs e = p + p := by
    rw [← hZ, dvl_twice, hv, h.2.1, h.2.2.1, dvl_of h.2.2.2]
  have hb : Z.natAbs < pw 60001 := by
    have h1 := rd_lt h.1 hn
    rw [val_dg, ← hv] at h1
    have h2 : (iv s xs).natAbs = val xs := iv_abs s xs
    obtain ⟨K, hK⟩ : ∃ K, 60000 = K := ⟨_, rfl⟩
    have h3 : pw (K + 1) = 4294967296 * pw K := by simp [pw, Nat.mul_comm]
    rw [show 60001 = K + 1 by omega, h3]
    rw [hK] at h1
    omega
  have e0 : (((n : Nat) : Int) == 0) = false := by simp [hn0]
  have HX := hide (show val xs * 2 ^ 0 = val xs by rw [Nat.pow_zero, Nat.mul_one])
  have HL := hide (show (dg (val xs)).length = n by rw [hv]; exact h.1.len)
  have HD := hide (show dg (val xs) = xs by rw [hv]; exact hxs)
  have HZ := hide hZ
  have HQ := hide hq
  have HB := hide hb
  have HR := hide hr
  have HE := hide (show -1000000000 ≤ e ∧ e ≤ 1000000000 by omega)

  have e1 : IntKind.i64.wrap (e - e) = 0 := by rw [Int.sub_self]; rfl
  have e2 : min (0 : Int) 1048576 = 0 := by decide
  have e3 : max (0 : Int) (-1048576) = 0 := by decide
  have h := h.1
  rw [hxs] at h
  clear hl hxs hv hq hb hr he h0 hZ 
  have h_1 := h.alloc (EY s A n c e)
  have ba_1 : Sy ((w).alloc (EY s A n c e)) (w.heap.size) (.bool s) (.slice A n c) (.int .i64 e) := by have h_ := Sy.new (w) (.bool s) (.slice A n c) (.int .i64 e); exact h_
  have F1 := (Below.refl w.heap.size w).alloc (Nat.le_refl _) (EY s A n c e)
  have h_2 := h_1.alloc (EY s A n c e)
  have ba_2 := ba_1.alloc (EY s A n c e)
  have bb_2 : Sy (((w).alloc (EY s A n c e)).alloc (EY s A n c e)) (w.heap.size + 1) (.bool s) (.slice A n c) (.int .i64 e) := by have h_ := Sy.new ((w).alloc (EY s A n c e)) (.bool s) (.slice A n c) (.int .i64 e); simp only [World.size_alloc] at h_; exact h_
  have F2 := F1.alloc F1.size (EY s A n c e)
  have h_3 := h_2.alloc EY0
  have ba_3 := ba_2.alloc EY0
  have bb_3 := bb_2.alloc EY0
  have br_3 : Sy ((((w).alloc (EY s A n c e)).alloc (EY s A n c e)).alloc EY0) (w.heap.size + 2) (.bool false) (.slice none 0 0) (.int .i64 0) := by have h_ := Sy.new (((w).alloc (EY s A n c e)).alloc (EY s A n c e)) (.bool false) (.slice none 0 0) (.int .i64 0); simp only [World.size_alloc] at h_; exact h_
  have F3 := F2.alloc F2.size EY0
  go_enter Tryd.func40, Tryd.ntmps40
  have ba_u3 := ba_3.cell0
  have ba_v3 := ba_3.cell1
  have ba_w3 := ba_3.cell2
  have bb_u3 := bb_3.cell0
  have bb_v3 := bb_3.cell1
  have bb_w3 := bb_3.cell2
  have br_u3 := br_3.cell0
  have br_v3 := br_3.cell1
  have br_w3 := br_3.cell2
  go_wp2_with fail
  refine (rShl_L _ _ _ _ _ 0 _ n _ (by first | rfl | simp) HX.out HL.out h_3 (by omega) (by omega)).mono ?_
  rintro e w4 ⟨A4, c4, rfl, m1, b4⟩
  have h_4 := h_3.below b4
  have ba_4 := ba_3.below b4 ba_3.lt
  have bb_4 := bb_3.below b4 bb_3.lt
  have br_4 := br_3.below b4 br_3.lt
  have F4 := below_then F3 (Nat.le_refl _) b4
  have ba_u4 := ba_4.cell0
  have ba_v4 := ba_4.cell1
  have ba_w4 := ba_4.cell2
  have bb_u4 := bb_4.cell0
  have bb_v4 := bb_4.cell1
  have bb_w4 := bb_4.cell2
  have br_u4 := br_4.cell0
  have br_v4 := br_4.cell1
  have br_w4 := br_4.cell2
  rw [HD.out] at m1
  go_wp2_with fail
  refine (rShl_L _ _ _ _ _ 0 _ n _ (by first | rfl | simp) HX.out HL.out m1 (by omega) (by omega)).mono ?_
  rintro e w5 ⟨A5, c5, rfl, m2, b5⟩
  have h_5 := h_4.below b5
  have m1_5 := m1.below b5
  have ba_5 := ba_4.below b5 ba_4.lt
  have bb_5 := bb_4.below b5 bb_4.lt
  have br_5 := br_4.below b5 br_4.lt
  have F5 := below_then F4 (Nat.le_refl _) b5
  have ba_u5 := ba_5.cell0
  have ba_v5 := ba_5.cell1
  have ba_w5 := ba_5.cell2
  have bb_u5 := bb_5.cell0
  have bb_v5 := bb_5.cell1
  have bb_w5 := bb_5.cell2
  have br_u5 := br_5.cell0
  have br_v5 := br_5.cell1
  have br_w5 := br_5.cell2
  rw [HD.out] at m2
  go_wp2_with fail
  refine (radd_int _ _ _ _ _ _ _ _ _ _ Z _ HZ.out ⟨xs, h_5, rfl⟩ ⟨xs, m2, rfl⟩ (by omega) (by omega)).mono ?_
  rintro e w6 ⟨s6, A6, n6, c6, rfl, z, b6⟩
  have h_6 := h_5.below b6
  have m2_6 := m2.below b6
  have ba_6 := ba_5.below b6 ba_5.lt
  have bb_6 := bb_5.below b6 bb_5.lt
  have br_6 := br_5.below b6 br_5.lt
  have F6 := below_then F5 (Nat.le_refl _) b6
  have ba_u6 := ba_6.cell0
  have ba_v6 := ba_6.cell1
  have ba_w6 := ba_6.cell2
  have bb_u6 := bb_6.cell0
  have bb_v6 := bb_6.cell1
  have bb_w6 := bb_6.cell2
  have br_u6 := br_6.cell0
  have br_v6 := br_6.cell1
  have br_w6 := br_6.cell2
  have nz_ := cz_len z HB.out
  have lt_bs_ba := ba_6.lt
  have lt_bs_bb := bb_6.lt
  have lt_bs_br := br_6.lt
  have z_7 := z.alloc (EI s6 A6 n6 c6)
  have ba_7 := ba_6.alloc (EI s6 A6 n6 c6)
  have bb_7 := bb_6.alloc (EI s6 A6 n6 c6)
  have br_7 := br_6.alloc (EI s6 A6 n6 c6)
  have bs_7 : Sb ((w6).alloc (EI s6 A6 n6 c6)) (w6.heap.size) (.bool s6) (.slice A6 n6 c6) := by have h_ := Sb.new (w6) (.bool s6) (.slice A6 n6 c6); exact h_
  have F7 := F6.alloc F6.size (EI s6 A6 n6 c6)
  have ba_u7 := ba_7.cell0
  have ba_v7 := ba_7.cell1
  have ba_w7 := ba_7.cell2
  have bb_u7 := bb_7.cell0
  have bb_v7 := bb_7.cell1
  have bb_w7 := bb_7.cell2
  have br_u7 := br_7.cell0
  have br_v7 := br_7.cell1
  have br_w7 := br_7.cell2
  have bs_u7 := bs_7.cell0
  have bs_v7 := bs_7.cell1
  go_wp2_with fail
  refine (rcan_2 _ _ _ _ Z e (p + p) _ z_7 (Nat.le_trans nz_ (by decide)) HQ.out HE.out HR.out).mono ?_
  rintro e w8 ⟨s8, A8, n8, c8, x8, rfl, y, b8⟩
  have z_8 := z_7.below b8
  have ba_8 := ba_7.below b8 ba_7.lt
  have bb_8 := bb_7.below b8 bb_7.lt
  have br_8 := br_7.below b8 br_7.lt
  have bs_8 := bs_7.below b8 bs_7.lt
  have F8 := below_then F7 (Nat.le_refl _) b8
  have ba_u8 := ba_8.cell0
  have ba_v8 := ba_8.cell1
  have ba_w8 := ba_8.cell2
  have bb_u8 := bb_8.cell0
  have bb_v8 := bb_8.cell1
  have bb_w8 := bb_8.cell2
  have br_u8 := br_8.cell0
  have br_v8 := br_8.cell1
  have br_w8 := br_8.cell2
  have bs_u8 := bs_8.cell0
  have bs_v8 := bs_8.cell1
  have lt_bd_ba := ba_8.lt
  have lt_bd_bb := bb_8.lt
  have lt_bd_br := br_8.lt
  have lt_bd_bs := bs_8.lt
  have z_9 := z_8.alloc (EY s8 A8 n8 c8 x8)
  have y_9 := y.alloc (EY s8 A8 n8 c8 x8)
  have ba_9 := ba_8.alloc (EY s8 A8 n8 c8 x8)
  have bb_9 := bb_8.alloc (EY s8 A8 n8 c8 x8)
  have br_9 := br_8.alloc (EY s8 A8 n8 c8 x8)
  have bs_9 := bs_8.alloc (EY s8 A8 n8 c8 x8)
  have bd_9 : Sy ((w8).alloc (EY s8 A8 n8 c8 x8)) (w8.heap.size) (.bool s8) (.slice A8 n8 c8) (.int .i64 x8) := by have h_ := Sy.new (w8) (.bool s8) (.slice A8 n8 c8) (.int .i64 x8); exact h_
  have F9 := F8.alloc F8.size (EY s8 A8 n8 c8 x8)
  have ba_u9 := ba_9.cell0
  have ba_v9 := ba_9.cell1
  have ba_w9 := ba_9.cell2
  have bb_u9 := bb_9.cell0
  have bb_v9 := bb_9.cell1
  have bb_w9 := bb_9.cell2
  have br_u9 := br_9.cell0
  have br_v9 := br_9.cell1
  have br_w9 := br_9.cell2
  have bs_u9 := bs_9.cell0
  have bs_v9 := bs_9.cell1
  have bd_u9 := bd_9.cell0
  have bd_v9 := bd_9.cell1
  have bd_w9 := bd_9.cell2
  clear lt_bs_ba lt_bs_bb lt_bs_br lt_bd_ba lt_bd_bb lt_bd_br lt_bd_bs
  have br_f09 := br_9.frozen 0
  have br_f19 := br_9.frozen 1
  have br_f29 := br_9.frozen 2
  go_wp2_with fail
  refine bodyPost_ret (v := .tuple #[.agg #[.bool s8, .slice A8 n8 c8, .int .i64 x8], .int .i64 0]) (by simp [results, Tryd.results40, go_sem, (br_9.set0 (.bool s8)).cell0, ((br_9.set0 (.bool s8)).set1 (.slice A8 n8 c8)).cell1, (((br_9.set0 (.bool s8)).set1 (.slice A8 n8 c8)).set2 (.int .i64 x8)).cell2]) rfl (gde_end 0 F9 (by omega) br_9 y_9)
set_option maxRecDepth 8000 in
set_option maxHeartbeats 4000000 in
theorem radd_self_bad (s : Bool) (A : Option Addr) (n c : Nat) (e : Int) (p : Rat) (w : World) (h : Cy w s A n c e p) (h0 : p ≠ 0) (hn : n ≤ 60000) (he : -1048576 ≤ e ∧ e ≤ 1048576) (h9 : p + p ≠ 0) (hr : de (p + p) < -1048576 ∨ 1048576 < de (p + p)) (hr9 : de (p + p) ≤ 1000000000) :
    Calls Tryd.prog 40 #[.agg #[.bool s, .slice A n c, .int .i64 e], .agg #[.bool s, .slice A n c, .int .i64 e]] w (GDE w 0 2) := by
  obtain ⟨xs, hxs⟩ : ∃ xs, dg (dm p) = xs := ⟨_, rfl⟩
  obtain ⟨Z, hZ⟩ : ∃ Z, iv s xs + iv s xs = Z := ⟨_, rfl⟩
  have hv : val xs = dm p := by rw [← hxs, val_dg]
  have hl : xs.length = n := by rw [← hxs]; exact h.1.len
  have hn0 : n ≠ 0 := fun hh => h0 (dm_eq_zero.1 (by rw [← hv, List.eq_nil_of_length_eq_zero (hl.trans hh)]; rfl))
  have hq : dvl (decide (Z < 0)) Z.natAbs e = p + p := by
    rw [← hZ, dvl_twice, hv, h.2.1, h.2.2.1, dvl_of h.2.2.2]
  have hb : Z.natAbs < pw 60001 := by
    have h1 := rd_lt h.1 hn
    rw [val_dg, ← hv] at h1
    have h2 : (iv s xs).natAbs = val xs := iv_abs s xs
    obtain ⟨K, hK⟩ : ∃ K, 60000 = K := ⟨_, rfl⟩
    have h3 : pw (K + 1) = 4294967296 * pw K := by simp [pw, Nat.mul_comm]
    rw [show 60001 = K + 1 by omega, h3]
    rw [hK] at h1
    omega
  have e0 : (((n : Nat) : Int) == 0) = false := by simp [hn0]
  have HX := hide (show val xs * 2 ^ 0 = val xs by rw [Nat.pow_zero, Nat.mul_one])
  have HL := hide (show (dg (val xs)).length = n by rw [hv]; exact h.1.len)
  have HD := hide (show dg (val xs) = xs by rw [hv]; exact hxs)
  have HZ := hide hZ
  have HQ := hide hq
  have HB := hide hb
  have HR := hide hr
  have HE := hide (show -1000000000 ≤ e ∧ e ≤ 1000000000 by omega)
  have H9 := hide (And.intro h9 hr9)
  have e1 : IntKind.i64.wrap (e - e) = 0 := by rw [Int.sub_self]; rfl
  have e2 : min (0 : Int) 1048576 = 0 := by decide
  have e3 : max (0 : Int) (-1048576) = 0 := by decide
  have h := h.1
  rw [hxs] at h
  clear hl hxs hv hq hb hr he h0 hZ h9 hr9
  have h_1 := h.alloc (EY s A n c e)
  have ba_1 : Sy ((w).alloc (EY s A n c e)) (w.heap.size) (.bool s) (.slice A n c) (.int .i64 e) := by have h_ := Sy.new (w) (.bool s) (.slice A n c) (.int .i64 e); exact h_
  have F1 := (Below.refl w.heap.size w).alloc (Nat.le_refl _) (EY s A n c e)
  have h_2 := h_1.alloc (EY s A n c e)
  have ba_2 := ba_1.alloc (EY s A n c e)
  have bb_2 : Sy (((w).alloc (EY s A n c e)).alloc (EY s A n c e)) (w.heap.size + 1) (.bool s) (.slice A n c) (.int .i64 e) := by have h_ := Sy.new ((w).alloc (EY s A n c e)) (.bool s) (.slice A n c) (.int .i64 e); simp only [World.size_alloc] at h_; exact h_
  have F2 := F1.alloc F1.size (EY s A n c e)
  have h_3 := h_2.alloc EY0
  have ba_3 := ba_2.alloc EY0
  have bb_3 := bb_2.alloc EY0
  have br_3 : Sy ((((w).alloc (EY s A n c e)).alloc (EY s A n c e)).alloc EY0) (w.heap.size + 2) (.bool false) (.slice none 0 0) (.int .i64 0) := by have h_ := Sy.new (((w).alloc (EY s A n c e)).alloc (EY s A n c e)) (.bool false) (.slice none 0 0) (.int .i64 0); simp only [World.size_alloc] at h_; exact h_
  have F3 := F2.alloc F2.size EY0
  go_enter Tryd.func40, Tryd.ntmps40
  have ba_u3 := ba_3.cell0
  have ba_v3 := ba_3.cell1
  have ba_w3 := ba_3.cell2
  have bb_u3 := bb_3.cell0
  have bb_v3 := bb_3.cell1
  have bb_w3 := bb_3.cell2
  have br_u3 := br_3.cell0
  have br_v3 := br_3.cell1
  have br_w3 := br_3.cell2
  go_wp2_with fail
  refine (rShl_L _ _ _ _ _ 0 _ n _ (by first | rfl | simp) HX.out HL.out h_3 (by omega) (by omega)).mono ?_
  rintro e w4 ⟨A4, c4, rfl, m1, b4⟩
  have h_4 := h_3.below b4
  have ba_4 := ba_3.below b4 ba_3.lt
  have bb_4 := bb_3.below b4 bb_3.lt
  have br_4 := br_3.below b4 br_3.lt
  have F4 := below_then F3 (Nat.le_refl _) b4
  have ba_u4 := ba_4.cell0
  have ba_v4 := ba_4.cell1
  have ba_w4 := ba_4.cell2
  have bb_u4 := bb_4.cell0
  have bb_v4 := bb_4.cell1
  have bb_w4 := bb_4.cell2
  have br_u4 := br_4.cell0
  have br_v4 := br_4.cell1
  have br_w4 := br_4.cell2
  rw [HD.out] at m1
  go_wp2_with fail
  refine (rShl_L _ _ _ _ _ 0 _ n _ (by first | rfl | simp) HX.out HL.out m1 (by omega) (by omega)).mono ?_
  rintro e w5 ⟨A5, c5, rfl, m2, b5⟩
  have h_5 := h_4.below b5
  have m1_5 := m1.below b5
  have ba_5 := ba_4.below b5 ba_4.lt
  have bb_5 := bb_4.below b5 bb_4.lt
  have br_5 := br_4.below b5 br_4.lt
  have F5 := below_then F4 (Nat.le_refl _) b5
  have ba_u5 := ba_5.cell0
  have ba_v5 := ba_5.cell1
  have ba_w5 := ba_5.cell2
  have bb_u5 := bb_5.cell0
  have bb_v5 := bb_5.cell1
  have bb_w5 := bb_5.cell2
  have br_u5 := br_5.cell0
  have br_v5 := br_5.cell1
  have br_w5 := br_5.cell2
  rw [HD.out] at m2
  go_wp2_with fail
  refine (radd_int _ _ _ _ _ _ _ _ _ _ Z _ HZ.out ⟨xs, h_5, rfl⟩ ⟨xs, m2, rfl⟩ (by omega) (by omega)).mono ?_
  rintro e w6 ⟨s6, A6, n6, c6, rfl, z, b6⟩
  have h_6 := h_5.below b6
  have m2_6 := m2.below b6
  have ba_6 := ba_5.below b6 ba_5.lt
  have bb_6 := bb_5.below b6 bb_5.lt
  have br_6 := br_5.below b6 br_5.lt
  have F6 := below_then F5 (Nat.le_refl _) b6
  have ba_u6 := ba_6.cell0
  have ba_v6 := ba_6.cell1
  have ba_w6 := ba_6.cell2
  have bb_u6 := bb_6.cell0
  have bb_v6 := bb_6.cell1
  have bb_w6 := bb_6.cell2
  have br_u6 := br_6.cell0
  have br_v6 := br_6.cell1
  have br_w6 := br_6.cell2
  have nz_ := cz_len z HB.out
  have lt_bs_ba := ba_6.lt
  have lt_bs_bb := bb_6.lt
  have lt_bs_br := br_6.lt
  have z_7 := z.alloc (EI s6 A6 n6 c6)
  have ba_7 := ba_6.alloc (EI s6 A6 n6 c6)
  have bb_7 := bb_6.alloc (EI s6 A6 n6 c6)
  have br_7 := br_6.alloc (EI s6 A6 n6 c6)
  have bs_7 : Sb ((w6).alloc (EI s6 A6 n6 c6)) (w6.heap.size) (.bool s6) (.slice A6 n6 c6) := by have h_ := Sb.new (w6) (.bool s6) (.slice A6 n6 c6); exact h_
  have F7 := F6.alloc F6.size (EI s6 A6 n6 c6)
  have ba_u7 := ba_7.cell0
  have ba_v7 := ba_7.cell1
  have ba_w7 := ba_7.cell2
  have bb_u7 := bb_7.cell0
  have bb_v7 := bb_7.cell1
  have bb_w7 := bb_7.cell2
  have br_u7 := br_7.cell0
  have br_v7 := br_7.cell1
  have br_w7 := br_7.cell2
  have bs_u7 := bs_7.cell0
  have bs_v7 := bs_7.cell1
  go_wp2_with fail
  refine (rcan_2b _ _ _ _ Z e (p + p) _ z_7 (Nat.le_trans nz_ (by decide)) HQ.out HE.out H9.out.1 HR.out H9.out.2).mono ?_
  rintro e w8 ⟨s8, A8, n8, c8, x8, rfl, y, b8⟩
  have z_8 := z_7.below b8
  have ba_8 := ba_7.below b8 ba_7.lt
  have bb_8 := bb_7.below b8 bb_7.lt
  have br_8 := br_7.below b8 br_7.lt
  have bs_8 := bs_7.below b8 bs_7.lt
  have F8 := below_then F7 (Nat.le_refl _) b8
  have ba_u8 := ba_8.cell0
  have ba_v8 := ba_8.cell1
  have ba_w8 := ba_8.cell2
  have bb_u8 := bb_8.cell0
  have bb_v8 := bb_8.cell1
  have bb_w8 := bb_8.cell2
  have br_u8 := br_8.cell0
  have br_v8 := br_8.cell1
  have br_w8 := br_8.cell2
  have bs_u8 := bs_8.cell0
  have bs_v8 := bs_8.cell1
  have lt_bd_ba := ba_8.lt
  have lt_bd_bb := bb_8.lt
  have lt_bd_br := br_8.lt
  have lt_bd_bs := bs_8.lt
  have z_9 := z_8.alloc (EY s8 A8 n8 c8 x8)
  have y_9 := y.alloc (EY s8 A8 n8 c8 x8)
  have ba_9 := ba_8.alloc (EY s8 A8 n8 c8 x8)
  have bb_9 := bb_8.alloc (EY s8 A8 n8 c8 x8)
  have br_9 := br_8.alloc (EY s8 A8 n8 c8 x8)
  have bs_9 := bs_8.alloc (EY s8 A8 n8 c8 x8)
  have bd_9 : Sy ((w8).alloc (EY s8 A8 n8 c8 x8)) (w8.heap.size) (.bool s8) (.slice A8 n8 c8) (.int .i64 x8) := by have h_ := Sy.new (w8) (.bool s8) (.slice A8 n8 c8) (.int .i64 x8); exact h_
  have F9 := F8.alloc F8.size (EY s8 A8 n8 c8 x8)
  have ba_u9 := ba_9.cell0
  have ba_v9 := ba_9.cell1
  have ba_w9 := ba_9.cell2
  have bb_u9 := bb_9.cell0
  have bb_v9 := bb_9.cell1
  have bb_w9 := bb_9.cell2
  have br_u9 := br_9.cell0
  have br_v9 := br_9.cell1
  have br_w9 := br_9.cell2
  have bs_u9 := bs_9.cell0
  have bs_v9 := bs_9.cell1
  have bd_u9 := bd_9.cell0
  have bd_v9 := bd_9.cell1
  have bd_w9 := bd_9.cell2
  clear lt_bs_ba lt_bs_bb lt_bs_br lt_bd_ba lt_bd_bb lt_bd_br lt_bd_bs
  have br_f09 := br_9.frozen 0
  have br_f19 := br_9.frozen 1
  have br_f29 := br_9.frozen 2
  go_wp2_with fail
  refine bodyPost_ret (v := .tuple #[.agg #[.bool false, .slice none 0 0, .int .i64 0], .int .i64 2]) (by simp [results, Tryd.results40, go_sem, (br_9.set0 (.bool false)).cell0, ((br_9.set0 (.bool false)).set1 (.slice none 0 0)).cell1, (((br_9.set0 (.bool false)).set1 (.slice none 0 0)).set2 (.int .i64 0)).cell2]) rfl (gde_end 2 F9 (by omega) br_9 (cy_zero _))
end Go.Proofs.YthiapkalmmgliaaDoor
