/-
  The product.
-/
import Derived.Test.YthiapkalmmgliaaDoorK10
namespace Go.Proofs.YthiapkalmmgliaaDoor
open Go.RowKit
set_option linter.unusedVariables false
set_option linter.unusedSimpArgs false

theorem dvl_mul (s t : Bool) (m k : Nat) (e x : Int) : dvl (!s == t) (m * k) (e + x) = dvl s m e * dvl t k x := by
  unfold dvl
  have e1 : (if (!s == t) = true then -((m * k : Nat) : Int) else ((m * k : Nat) : Int)) = (if s = true then -(m : Int) else (m : Int)) * (if t = true then -(k : Int) else (k : Int)) := by
    cases s <;> cases t <;> simp [Int.natCast_mul, Int.neg_mul, Int.mul_neg]
  rw [e1, p2_add, Rat.intCast_mul]
  grind
theorem rcan_p (s t s' : Bool) (hs : s' = (!s == t)) (A : Option Addr) (n c : Nat) (X Y : Nat) (e x z : Int) (hz : z = e + x) (p q : Rat) (w : World) (h : Rd w A n c (dg (X * Y))) (hn : n ≤ 1000000) (hp : dvl s X e = p) (hq : dvl t Y x = q) (he : -400000000 ≤ e ∧ e ≤ 400000000) (hx : -400000000 ≤ x ∧ x ≤ 400000000) (hr : -1048576 ≤ de (p * q) ∧ de (p * q) ≤ 1048576) :
    Calls Tryd.prog 46 #[.bool s', .slice A n c, .int .i64 z] w (GDB w (p * q) true) := by
  subst hs hz
  exact rcan_q _ _ _ _ _ _ _ _ h hn (by rw [val_dg, dvl_mul, hp, hq]) (by omega) hr
theorem rymul_ok (s t : Bool) (A B : Option Addr) (n m c d : Nat) (e x : Int) (p q : Rat) (w : World) (h : Cy w s A n c e p) (k : Cy w t B m d x q) (hn : n ≤ 400000) (hm : m ≤ 400000) (he : -4000000 ≤ e ∧ e ≤ 4000000) (hx : -4000000 ≤ x ∧ x ≤ 4000000) (hr : -1048576 ≤ de (p * q) ∧ de (p * q) ≤ 1048576) :
    Calls Tryd.prog 39 #[.agg #[.bool s, .slice A n c, .int .i64 e], .agg #[.bool t, .slice B m d, .int .i64 x]] w (GDE w (p * q) 0) := by
  obtain ⟨L, hL⟩ : ∃ L, (dg (dm p * dm q)).length = L := ⟨_, rfl⟩
  have hLk : L ≤ 800000 := by
    have h1 := rd_lt h.1 (Nat.le_refl n)
    have h2 := rd_lt k.1 (Nat.le_refl m)
    rw [val_dg] at h1 h2
    have := dg_le (mul_pw h1 h2)
    omega
  have HL := hide hL
  have HR := hide hr
  have HP := hide (show dvl s (dm p) e = p by rw [h.2.1, h.2.2.1, dvl_of h.2.2.2])
  have HQ := hide (show dvl t (dm q) x = q by rw [k.2.1, k.2.2.1, dvl_of k.2.2.2])
  have HE := hide (show (-400000000 ≤ e ∧ e ≤ 400000000) ∧ (-400000000 ≤ x ∧ x ≤ 400000000) by omega)
  have HN := hide (show n ≤ 1048576 ∧ m ≤ 1048576 ∧ L ≤ 1000000 by omega)
  have he1 := he.1
  have he2 := he.2
  have hx1 := hx.1
  have hx2 := hx.2
  have HW := hide (show IntKind.i64.wrap (e + x) = e + x by first | go_num | (unfold IntKind.wrap; simp; omega) | (simp [IntKind.wrap, IntKind.bits, IntKind.signed]; omega))
  have h := h.1
  have k := k.1
  clear hL hr hn hm he hx hLk
  have h_1 := h.alloc (EY s A n c e)
  have k_1 := k.alloc (EY s A n c e)
  have ba_1 : Sy ((w).alloc (EY s A n c e)) (w.heap.size) (.bool s) (.slice A n c) (.int .i64 e) := by have h_ := Sy.new (w) (.bool s) (.slice A n c) (.int .i64 e); exact h_
  have F1 := (Below.refl w.heap.size w).alloc (Nat.le_refl _) (EY s A n c e)
  have h_2 := h_1.alloc (EY t B m d x)
  have k_2 := k_1.alloc (EY t B m d x)
  have ba_2 := ba_1.alloc (EY t B m d x)
  have bb_2 : Sy (((w).alloc (EY s A n c e)).alloc (EY t B m d x)) (w.heap.size + 1) (.bool t) (.slice B m d) (.int .i64 x) := by have h_ := Sy.new ((w).alloc (EY s A n c e)) (.bool t) (.slice B m d) (.int .i64 x); simp only [World.size_alloc] at h_; exact h_
  have F2 := F1.alloc F1.size (EY t B m d x)
  have h_3 := h_2.alloc EY0
  have k_3 := k_2.alloc EY0
  have ba_3 := ba_2.alloc EY0
  have bb_3 := bb_2.alloc EY0
  have br_3 : Sy ((((w).alloc (EY s A n c e)).alloc (EY t B m d x)).alloc EY0) (w.heap.size + 2) (.bool false) (.slice none 0 0) (.int .i64 0) := by have h_ := Sy.new (((w).alloc (EY s A n c e)).alloc (EY t B m d x)) (.bool false) (.slice none 0 0) (.int .i64 0); simp only [World.size_alloc] at h_; exact h_
  have F3 := F2.alloc F2.size EY0
  go_enter Tryd.func39, Tryd.ntmps39
  have ba_u3 := ba_3.cell0
  have ba_v3 := ba_3.cell1
  have ba_w3 := ba_3.cell2
  have bb_u3 := bb_3.cell0
  have bb_v3 := bb_3.cell1
  have bb_w3 := bb_3.cell2
  have br_u3 := br_3.cell0
  have br_v3 := br_3.cell1
  have br_w3 := br_3.cell2
  go_upto_region 1 with fail
  go_cut [6, 7] (fun sx3 okv wy => ∃ (wx3 : World) (g : Nat) (A5 : Option Addr) (c5 : Nat) (s6 : Bool) (A6 : Option Addr) (n6 : Nat) (c6 : Nat) (x6 : Int), wx3 = wy ∧ sx3 = .pointer (some ⟨g, 0, none⟩) ∧ okv = .bool true ∧ Sy wx3 g (.bool s6) (.slice A6 n6 c6) (.int .i64 x6) ∧ w.heap.size ≤ g ∧ w.heap.size < g ∧ w.heap.size + 1 < g ∧ w.heap.size + 2 < g ∧ Sy wx3 (w.heap.size) (.bool s) (.slice A n c) (.int .i64 e) ∧ Sy wx3 (w.heap.size + 1) (.bool t) (.slice B m d) (.int .i64 x) ∧ Sy wx3 (w.heap.size + 2) (.bool false) (.slice none 0 0) (.int .i64 0) ∧ Cy wx3 s6 A6 n6 c6 x6 (p * q) ∧ Below w.heap.size w wx3)
  case first =>
    have h_4 := h_3.drew
    have k_4 := k_3.drew
    have ba_4 := ba_3.drew
    have bb_4 := bb_3.drew
    have br_4 := br_3.drew
    have F4 := F3.drew
    have h_z0 := (h_3.alloc EY0).drew
    have k_z0 := (k_3.alloc EY0).drew
    have ba_z0 := (ba_3.alloc EY0).drew
    have bb_z0 := (bb_3.alloc EY0).drew
    have br_z0 := (br_3.alloc EY0).drew
    have lz_ba : w.heap.size < w.heap.size + 3 := by omega
    have lz_bb : w.heap.size + 1 < w.heap.size + 3 := by omega
    have lz_br : w.heap.size + 2 < w.heap.size + 3 := by omega
    have gl : w.heap.size ≤ w.heap.size + 3 := by omega
    have F_z0 := (F3.alloc F3.size EY0).drew
    have zb_0 : Sy (((((w).alloc (EY s A n c e)).alloc (EY t B m d x)).alloc EY0).alloc EY0).drew (w.heap.size + 3) (.bool false) (.slice none 0 0) (.int .i64 0) := by have h_ := Sy.new ((((w).alloc (EY s A n c e)).alloc (EY t B m d x)).alloc EY0) (.bool false) (.slice none 0 0) (.int .i64 0); simp only [World.size_alloc] at h_; exact h_.drew
    go_region_held3 (fun w' => w'.cell? ⟨w.heap.size, 0, none⟩ = some (.bool s) ∧ w'.cell? ⟨w.heap.size, 1, none⟩ = some (.slice A n c) ∧ w'.cell? ⟨w.heap.size, 2, none⟩ = some (.int .i64 e) ∧ w'.cell? ⟨w.heap.size + 1, 0, none⟩ = some (.bool t) ∧ w'.cell? ⟨w.heap.size + 1, 1, none⟩ = some (.slice B m d) ∧ w'.cell? ⟨w.heap.size + 1, 2, none⟩ = some (.int .i64 x) ∧ w'.cell? ⟨w.heap.size + 2, 0, none⟩ = some (.bool false) ∧ w'.cell? ⟨w.heap.size + 2, 1, none⟩ = some (.slice none 0 0) ∧ w'.cell? ⟨w.heap.size + 2, 2, none⟩ = some (.int .i64 0))
      (first
        | with_reducible exact ⟨(ba_6.alloc (EY s6 A6 n6 c6 x6)).cell0, (ba_6.alloc (EY s6 A6 n6 c6 x6)).cell1, (ba_6.alloc (EY s6 A6 n6 c6 x6)).cell2, (bb_6.alloc (EY s6 A6 n6 c6 x6)).cell0, (bb_6.alloc (EY s6 A6 n6 c6 x6)).cell1, (bb_6.alloc (EY s6 A6 n6 c6 x6)).cell2, (br_6.alloc (EY s6 A6 n6 c6 x6)).cell0, (br_6.alloc (EY s6 A6 n6 c6 x6)).cell1, (br_6.alloc (EY s6 A6 n6 c6 x6)).cell2⟩
        | with_reducible exact ⟨(ba_6.past (u0 := .bool s6) (u1 := .slice A6 n6 c6) (u2 := .int .i64 x6) (Nat.ne_of_lt lz_ba)).cell0, (ba_6.past (u0 := .bool s6) (u1 := .slice A6 n6 c6) (u2 := .int .i64 x6) (Nat.ne_of_lt lz_ba)).cell1, (ba_6.past (u0 := .bool s6) (u1 := .slice A6 n6 c6) (u2 := .int .i64 x6) (Nat.ne_of_lt lz_ba)).cell2, (bb_6.past (u0 := .bool s6) (u1 := .slice A6 n6 c6) (u2 := .int .i64 x6) (Nat.ne_of_lt lz_bb)).cell0, (bb_6.past (u0 := .bool s6) (u1 := .slice A6 n6 c6) (u2 := .int .i64 x6) (Nat.ne_of_lt lz_bb)).cell1, (bb_6.past (u0 := .bool s6) (u1 := .slice A6 n6 c6) (u2 := .int .i64 x6) (Nat.ne_of_lt lz_bb)).cell2, (br_6.past (u0 := .bool s6) (u1 := .slice A6 n6 c6) (u2 := .int .i64 x6) (Nat.ne_of_lt lz_br)).cell0, (br_6.past (u0 := .bool s6) (u1 := .slice A6 n6 c6) (u2 := .int .i64 x6) (Nat.ne_of_lt lz_br)).cell1, (br_6.past (u0 := .bool s6) (u1 := .slice A6 n6 c6) (u2 := .int .i64 x6) (Nat.ne_of_lt lz_br)).cell2⟩
        | with_reducible exact ⟨(ba_6.alloc EY0).cell0, (ba_6.alloc EY0).cell1, (ba_6.alloc EY0).cell2, (bb_6.alloc EY0).cell0, (bb_6.alloc EY0).cell1, (bb_6.alloc EY0).cell2, (br_6.alloc EY0).cell0, (br_6.alloc EY0).cell1, (br_6.alloc EY0).cell2⟩
        | with_reducible exact ⟨ba_6.cell0, ba_6.cell1, ba_6.cell2, bb_6.cell0, bb_6.cell1, bb_6.cell2, br_6.cell0, br_6.cell1, br_6.cell2⟩
        | with_reducible exact ⟨ba_5.alloc EY0 |>.cell0, ba_5.alloc EY0 |>.cell1, ba_5.alloc EY0 |>.cell2, bb_5.alloc EY0 |>.cell0, bb_5.alloc EY0 |>.cell1, bb_5.alloc EY0 |>.cell2, br_5.alloc EY0 |>.cell0, br_5.alloc EY0 |>.cell1, br_5.alloc EY0 |>.cell2⟩
        | with_reducible exact ⟨(ba_5.alloc EY0).cell0, (ba_5.alloc EY0).cell1, (ba_5.alloc EY0).cell2, (bb_5.alloc EY0).cell0, (bb_5.alloc EY0).cell1, (bb_5.alloc EY0).cell2, (br_5.alloc EY0).cell0, (br_5.alloc EY0).cell1, (br_5.alloc EY0).cell2⟩
        | with_reducible exact ⟨ba_5.cell0, ba_5.cell1, ba_5.cell2, bb_5.cell0, bb_5.cell1, bb_5.cell2, br_5.cell0, br_5.cell1, br_5.cell2⟩
        | with_reducible exact ⟨ba_z0.cell0, ba_z0.cell1, ba_z0.cell2, bb_z0.cell0, bb_z0.cell1, bb_z0.cell2, br_z0.cell0, br_z0.cell1, br_z0.cell2⟩
        | with_reducible exact ⟨ba_4.cell0, ba_4.cell1, ba_4.cell2, bb_4.cell0, bb_4.cell1, bb_4.cell2, br_4.cell0, br_4.cell1, br_4.cell2⟩
        | fail)
      (first
        | (go_at_call 62; (with_reducible refine (rmul_L _ _ _ _ _ _ _ _ _ (dm p) (dm q) L (val_dg _) (val_dg _) HL.out h_4 k_4 HN.out.1 HN.out.2.1).mono ?_); rintro e w5 ⟨A5, c5, rfl, pr, b5⟩; have h_5 := h_4.below b5; have k_5 := k_4.below b5; have ba_5 := ba_4.below b5 ba_4.lt; have bb_5 := bb_4.below b5 bb_4.lt; have br_5 := br_4.below b5 br_4.lt; have F5 := below_then F4 (Nat.le_refl _) b5)
        | (go_at_call 62; (with_reducible refine (rmul_L _ _ _ _ _ _ _ _ _ (dm p) (dm q) L (val_dg _) (val_dg _) HL.out h_z0 k_z0 HN.out.1 HN.out.2.1).mono ?_); rintro e w5 ⟨A5, c5, rfl, pr, b5⟩; have h_5 := h_z0.below b5; have k_5 := k_z0.below b5; have ba_5 := ba_z0.below b5 ba_z0.lt; have bb_5 := bb_z0.below b5 bb_z0.lt; have br_5 := br_z0.below b5 br_z0.lt; have F5 := below_then F_z0 (Nat.le_refl _) b5; have zb_5 := zb_0.below b5 zb_0.lt)
        | (go_at_call 46; (with_reducible refine (rcan_p s t _ (by cases s <;> cases t <;> rfl) _ _ _ (dm p) (dm q) e x _ HW.out p q _ pr HN.out.2.2 HP.out HQ.out HE.out.1 HE.out.2 HR.out).mono ?_); rintro e w6 ⟨s6, A6, n6, c6, x6, rfl, y, b6⟩; have h_6 := h_5.below b6; have k_6 := k_5.below b6; have pr_6 := pr.below b6; have ba_6 := ba_5.below b6 ba_5.lt; have bb_6 := bb_5.below b6 bb_5.lt; have br_6 := br_5.below b6 br_5.lt; have F6 := below_then F5 (Nat.le_refl _) b6; have zb_6 := zb_5.below b6 zb_5.lt; have zk6_0 := zb_6.cell0; have zk6_1 := zb_6.cell1; have zk6_2 := zb_6.cell2; have zf6_0 := zb_6.frozen 0; have zf6_1 := zb_6.frozen 1; have zf6_2 := zb_6.frozen 2)
        | (go_at_call 46; (with_reducible refine (rcan_p s t _ (by cases s <;> cases t <;> rfl) _ _ _ (dm p) (dm q) e x _ HW.out p q _ pr HN.out.2.2 HP.out HQ.out HE.out.1 HE.out.2 HR.out).mono ?_); rintro e w6 ⟨s6, A6, n6, c6, x6, rfl, y, b6⟩; have h_6 := h_5.below b6; have k_6 := k_5.below b6; have pr_6 := pr.below b6; have ba_6 := ba_5.below b6 ba_5.lt; have bb_6 := bb_5.below b6 bb_5.lt; have br_6 := br_5.below b6 br_5.lt; have F6 := below_then F5 (Nat.le_refl _) b6)
        | (have h_z6 := h_5.alloc EY0; have k_z6 := k_5.alloc EY0; have pr_z6 := pr.alloc EY0; have ba_z6 := ba_5.alloc EY0; have bb_z6 := bb_5.alloc EY0; have br_z6 := br_5.alloc EY0; have lz_ba := ba_5.lt; have lz_bb := bb_5.lt; have lz_br := br_5.lt; have gl := F5.size; have F_z6 := F5.alloc F5.size EY0; have zb_5 := Sy.new (w5) (.bool false) (.slice none 0 0) (.int .i64 0); go_at_call 46; (with_reducible refine (rcan_p s t _ (by cases s <;> cases t <;> rfl) _ _ _ (dm p) (dm q) e x _ HW.out p q _ pr_z6 HN.out.2.2 HP.out HQ.out HE.out.1 HE.out.2 HR.out).mono ?_); rintro e w6 ⟨s6, A6, n6, c6, x6, rfl, y, b6⟩; have h_6 := h_z6.below b6; have k_6 := k_z6.below b6; have pr_6 := pr_z6.below b6; have ba_6 := ba_z6.below b6 ba_z6.lt; have bb_6 := bb_z6.below b6 bb_z6.lt; have br_6 := br_z6.below b6 br_z6.lt; have F6 := below_then F_z6 (Nat.le_refl _) b6; have zb_6 := zb_5.below b6 zb_5.lt; have zk6_0 := zb_6.cell0; have zk6_1 := zb_6.cell1; have zk6_2 := zb_6.cell2; have zf6_0 := zb_6.frozen 0; have zf6_1 := zb_6.frozen 1; have zf6_2 := zb_6.frozen 2)
        | fail)
    all_goals (go_wp2_with fail; go_meet; first | exact ⟨_, _, A5, c5, s6, A6, n6, c6, x6, rfl, rfl, rfl, zb_6.stor, gl, lz_ba, lz_bb, lz_br, ba_6.past (Nat.ne_of_lt lz_ba), bb_6.past (Nat.ne_of_lt lz_bb), br_6.past (Nat.ne_of_lt lz_br), y.storY zb_6 (.bool s6) (.slice A6 n6 c6) (.int .i64 x6), below_storQ F6 gl⟩ | exact ⟨_, _, A5, c5, s6, A6, n6, c6, x6, rfl, rfl, rfl, Sy.new w6 (.bool s6) (.slice A6 n6 c6) (.int .i64 x6), F6.size, ba_6.lt, bb_6.lt, br_6.lt, ba_6.alloc (EY s6 A6 n6 c6 x6), bb_6.alloc (EY s6 A6 n6 c6 x6), br_6.alloc (EY s6 A6 n6 c6 x6), y.alloc (EY s6 A6 n6 c6 x6), F6.alloc F6.size _⟩ | fail)
  case rest =>
    obtain ⟨wx3, g7, A5, c5, s6, A6, n6, c6, x6, rfl, rfl, rfl, bd_7, gl_7, lt_bd_ba, lt_bd_bb, lt_bd_br, ba_7, bb_7, br_7, y_7, F7⟩ := hcut
    have ba_u7 := ba_7.cell0
    have ba_v7 := ba_7.cell1
    have ba_w7 := ba_7.cell2
    have bb_u7 := bb_7.cell0
    have bb_v7 := bb_7.cell1
    have bb_w7 := bb_7.cell2
    have br_u7 := br_7.cell0
    have br_v7 := br_7.cell1
    have br_w7 := br_7.cell2
    have bd_u7 := bd_7.cell0
    have bd_v7 := bd_7.cell1
    have bd_w7 := bd_7.cell2
    have br_f07 := br_7.frozen 0
    have br_f17 := br_7.frozen 1
    have br_f27 := br_7.frozen 2
    go_wp2_with fail
    refine bodyPost_ret (v := .tuple #[.agg #[.bool s6, .slice A6 n6 c6, .int .i64 x6], .int .i64 0]) (by simp [results, Tryd.results39, go_sem, (br_7.set0 (.bool s6)).cell0, ((br_7.set0 (.bool s6)).set1 (.slice A6 n6 c6)).cell1, (((br_7.set0 (.bool s6)).set1 (.slice A6 n6 c6)).set2 (.int .i64 x6)).cell2]) rfl (gde_end 0 F7 (by omega) br_7 y_7)
theorem rcan_pb (s t s' : Bool) (hs : s' = (!s == t)) (A : Option Addr) (n c : Nat) (X Y : Nat) (e x z : Int) (hz : z = e + x) (p q : Rat) (w : World) (h : Rd w A n c (dg (X * Y))) (hn : n ≤ 1000000) (hp : dvl s X e = p) (hq : dvl t Y x = q) (he : -400000000 ≤ e ∧ e ≤ 400000000) (hx : -400000000 ≤ x ∧ x ≤ 400000000) (h0 : p * q ≠ 0) (hr : de (p * q) < -1048576 ∨ 1048576 < de (p * q)) (hr9 : de (p * q) ≤ 1000000000) :
    Calls Tryd.prog 46 #[.bool s', .slice A n c, .int .i64 z] w (GDB w 0 false) := by
  subst hs hz
  exact rcan_bad _ _ _ _ _ _ _ _ h hn (by rw [val_dg, dvl_mul, hp, hq]) (by omega) h0 hr hr9
theorem rymul_bad (s t : Bool) (A B : Option Addr) (n m c d : Nat) (e x : Int) (p q : Rat) (w : World) (h : Cy w s A n c e p) (k : Cy w t B m d x q) (hn : n ≤ 400000) (hm : m ≤ 400000) (he : -4000000 ≤ e ∧ e ≤ 4000000) (hx : -4000000 ≤ x ∧ x ≤ 4000000) (h0 : p * q ≠ 0) (hr : de (p * q) < -1048576 ∨ 1048576 < de (p * q)) (hr9 : de (p * q) ≤ 1000000000) :
    Calls Tryd.prog 39 #[.agg #[.bool s, .slice A n c, .int .i64 e], .agg #[.bool t, .slice B m d, .int .i64 x]] w (GDE w 0 2) := by
  obtain ⟨L, hL⟩ : ∃ L, (dg (dm p * dm q)).length = L := ⟨_, rfl⟩
  have hLk : L ≤ 800000 := by
    have h1 := rd_lt h.1 (Nat.le_refl n)
    have h2 := rd_lt k.1 (Nat.le_refl m)
    rw [val_dg] at h1 h2
    have := dg_le (mul_pw h1 h2)
    omega
  have HL := hide hL
  have HR := hide hr
  have H0 := hide (And.intro h0 hr9)
  have HP := hide (show dvl s (dm p) e = p by rw [h.2.1, h.2.2.1, dvl_of h.2.2.2])
  have HQ := hide (show dvl t (dm q) x = q by rw [k.2.1, k.2.2.1, dvl_of k.2.2.2])
  have HE := hide (show (-400000000 ≤ e ∧ e ≤ 400000000) ∧ (-400000000 ≤ x ∧ x ≤ 400000000) by omega)
  have HN := hide (show n ≤ 1048576 ∧ m ≤ 1048576 ∧ L ≤ 1000000 by omega)
  have he1 := he.1
  have he2 := he.2
  have hx1 := hx.1
  have hx2 := hx.2
  have HW := hide (show IntKind.i64.wrap (e + x) = e + x by first | go_num | (unfold IntKind.wrap; simp; omega) | (simp [IntKind.wrap, IntKind.bits, IntKind.signed]; omega))
  have h := h.1
  have k := k.1
  clear hL hr hr9 h0 hn hm he hx hLk
  have h_1 := h.alloc (EY s A n c e)
  have k_1 := k.alloc (EY s A n c e)
  have ba_1 : Sy ((w).alloc (EY s A n c e)) (w.heap.size) (.bool s) (.slice A n c) (.int .i64 e) := by have h_ := Sy.new (w) (.bool s) (.slice A n c) (.int .i64 e); exact h_
  have F1 := (Below.refl w.heap.size w).alloc (Nat.le_refl _) (EY s A n c e)
  have h_2 := h_1.alloc (EY t B m d x)
  have k_2 := k_1.alloc (EY t B m d x)
  have ba_2 := ba_1.alloc (EY t B m d x)
  have bb_2 : Sy (((w).alloc (EY s A n c e)).alloc (EY t B m d x)) (w.heap.size + 1) (.bool t) (.slice B m d) (.int .i64 x) := by have h_ := Sy.new ((w).alloc (EY s A n c e)) (.bool t) (.slice B m d) (.int .i64 x); simp only [World.size_alloc] at h_; exact h_
  have F2 := F1.alloc F1.size (EY t B m d x)
  have h_3 := h_2.alloc EY0
  have k_3 := k_2.alloc EY0
  have ba_3 := ba_2.alloc EY0
  have bb_3 := bb_2.alloc EY0
  have br_3 : Sy ((((w).alloc (EY s A n c e)).alloc (EY t B m d x)).alloc EY0) (w.heap.size + 2) (.bool false) (.slice none 0 0) (.int .i64 0) := by have h_ := Sy.new (((w).alloc (EY s A n c e)).alloc (EY t B m d x)) (.bool false) (.slice none 0 0) (.int .i64 0); simp only [World.size_alloc] at h_; exact h_
  have F3 := F2.alloc F2.size EY0
  go_enter Tryd.func39, Tryd.ntmps39
  have ba_u3 := ba_3.cell0
  have ba_v3 := ba_3.cell1
  have ba_w3 := ba_3.cell2
  have bb_u3 := bb_3.cell0
  have bb_v3 := bb_3.cell1
  have bb_w3 := bb_3.cell2
  have br_u3 := br_3.cell0
  have br_v3 := br_3.cell1
  have br_w3 := br_3.cell2
  go_upto_region 1 with fail
  go_cut [6, 7] (fun sx3 okv wy => ∃ (wx3 : World) (g : Nat) (A5 : Option Addr) (c5 : Nat) (s6 : Bool) (A6 : Option Addr) (n6 : Nat) (c6 : Nat) (x6 : Int), wx3 = wy ∧ sx3 = .pointer (some ⟨g, 0, none⟩) ∧ okv = .bool false ∧ Sy wx3 g (.bool s6) (.slice A6 n6 c6) (.int .i64 x6) ∧ w.heap.size ≤ g ∧ w.heap.size < g ∧ w.heap.size + 1 < g ∧ w.heap.size + 2 < g ∧ Sy wx3 (w.heap.size) (.bool s) (.slice A n c) (.int .i64 e) ∧ Sy wx3 (w.heap.size + 1) (.bool t) (.slice B m d) (.int .i64 x) ∧ Sy wx3 (w.heap.size + 2) (.bool false) (.slice none 0 0) (.int .i64 0) ∧ Cy wx3 s6 A6 n6 c6 x6 0 ∧ Below w.heap.size w wx3)
  case first =>
    have h_4 := h_3.drew
    have k_4 := k_3.drew
    have ba_4 := ba_3.drew
    have bb_4 := bb_3.drew
    have br_4 := br_3.drew
    have F4 := F3.drew
    have h_z0 := (h_3.alloc EY0).drew
    have k_z0 := (k_3.alloc EY0).drew
    have ba_z0 := (ba_3.alloc EY0).drew
    have bb_z0 := (bb_3.alloc EY0).drew
    have br_z0 := (br_3.alloc EY0).drew
    have lz_ba : w.heap.size < w.heap.size + 3 := by omega
    have lz_bb : w.heap.size + 1 < w.heap.size + 3 := by omega
    have lz_br : w.heap.size + 2 < w.heap.size + 3 := by omega
    have gl : w.heap.size ≤ w.heap.size + 3 := by omega
    have F_z0 := (F3.alloc F3.size EY0).drew
    have zb_0 : Sy (((((w).alloc (EY s A n c e)).alloc (EY t B m d x)).alloc EY0).alloc EY0).drew (w.heap.size + 3) (.bool false) (.slice none 0 0) (.int .i64 0) := by have h_ := Sy.new ((((w).alloc (EY s A n c e)).alloc (EY t B m d x)).alloc EY0) (.bool false) (.slice none 0 0) (.int .i64 0); simp only [World.size_alloc] at h_; exact h_.drew
    go_region_held3 (fun w' => w'.cell? ⟨w.heap.size, 0, none⟩ = some (.bool s) ∧ w'.cell? ⟨w.heap.size, 1, none⟩ = some (.slice A n c) ∧ w'.cell? ⟨w.heap.size, 2, none⟩ = some (.int .i64 e) ∧ w'.cell? ⟨w.heap.size + 1, 0, none⟩ = some (.bool t) ∧ w'.cell? ⟨w.heap.size + 1, 1, none⟩ = some (.slice B m d) ∧ w'.cell? ⟨w.heap.size + 1, 2, none⟩ = some (.int .i64 x) ∧ w'.cell? ⟨w.heap.size + 2, 0, none⟩ = some (.bool false) ∧ w'.cell? ⟨w.heap.size + 2, 1, none⟩ = some (.slice none 0 0) ∧ w'.cell? ⟨w.heap.size + 2, 2, none⟩ = some (.int .i64 0))
      (first
        | with_reducible exact ⟨(ba_6.alloc (EY s6 A6 n6 c6 x6)).cell0, (ba_6.alloc (EY s6 A6 n6 c6 x6)).cell1, (ba_6.alloc (EY s6 A6 n6 c6 x6)).cell2, (bb_6.alloc (EY s6 A6 n6 c6 x6)).cell0, (bb_6.alloc (EY s6 A6 n6 c6 x6)).cell1, (bb_6.alloc (EY s6 A6 n6 c6 x6)).cell2, (br_6.alloc (EY s6 A6 n6 c6 x6)).cell0, (br_6.alloc (EY s6 A6 n6 c6 x6)).cell1, (br_6.alloc (EY s6 A6 n6 c6 x6)).cell2⟩
        | with_reducible exact ⟨(ba_6.past (u0 := .bool s6) (u1 := .slice A6 n6 c6) (u2 := .int .i64 x6) (Nat.ne_of_lt lz_ba)).cell0, (ba_6.past (u0 := .bool s6) (u1 := .slice A6 n6 c6) (u2 := .int .i64 x6) (Nat.ne_of_lt lz_ba)).cell1, (ba_6.past (u0 := .bool s6) (u1 := .slice A6 n6 c6) (u2 := .int .i64 x6) (Nat.ne_of_lt lz_ba)).cell2, (bb_6.past (u0 := .bool s6) (u1 := .slice A6 n6 c6) (u2 := .int .i64 x6) (Nat.ne_of_lt lz_bb)).cell0, (bb_6.past (u0 := .bool s6) (u1 := .slice A6 n6 c6) (u2 := .int .i64 x6) (Nat.ne_of_lt lz_bb)).cell1, (bb_6.past (u0 := .bool s6) (u1 := .slice A6 n6 c6) (u2 := .int .i64 x6) (Nat.ne_of_lt lz_bb)).cell2, (br_6.past (u0 := .bool s6) (u1 := .slice A6 n6 c6) (u2 := .int .i64 x6) (Nat.ne_of_lt lz_br)).cell0, (br_6.past (u0 := .bool s6) (u1 := .slice A6 n6 c6) (u2 := .int .i64 x6) (Nat.ne_of_lt lz_br)).cell1, (br_6.past (u0 := .bool s6) (u1 := .slice A6 n6 c6) (u2 := .int .i64 x6) (Nat.ne_of_lt lz_br)).cell2⟩
        | with_reducible exact ⟨(ba_6.alloc EY0).cell0, (ba_6.alloc EY0).cell1, (ba_6.alloc EY0).cell2, (bb_6.alloc EY0).cell0, (bb_6.alloc EY0).cell1, (bb_6.alloc EY0).cell2, (br_6.alloc EY0).cell0, (br_6.alloc EY0).cell1, (br_6.alloc EY0).cell2⟩
        | with_reducible exact ⟨ba_6.cell0, ba_6.cell1, ba_6.cell2, bb_6.cell0, bb_6.cell1, bb_6.cell2, br_6.cell0, br_6.cell1, br_6.cell2⟩
        | with_reducible exact ⟨ba_5.alloc EY0 |>.cell0, ba_5.alloc EY0 |>.cell1, ba_5.alloc EY0 |>.cell2, bb_5.alloc EY0 |>.cell0, bb_5.alloc EY0 |>.cell1, bb_5.alloc EY0 |>.cell2, br_5.alloc EY0 |>.cell0, br_5.alloc EY0 |>.cell1, br_5.alloc EY0 |>.cell2⟩
        | with_reducible exact ⟨(ba_5.alloc EY0).cell0, (ba_5.alloc EY0).cell1, (ba_5.alloc EY0).cell2, (bb_5.alloc EY0).cell0, (bb_5.alloc EY0).cell1, (bb_5.alloc EY0).cell2, (br_5.alloc EY0).cell0, (br_5.alloc EY0).cell1, (br_5.alloc EY0).cell2⟩
        | with_reducible exact ⟨ba_5.cell0, ba_5.cell1, ba_5.cell2, bb_5.cell0, bb_5.cell1, bb_5.cell2, br_5.cell0, br_5.cell1, br_5.cell2⟩
        | with_reducible exact ⟨ba_z0.cell0, ba_z0.cell1, ba_z0.cell2, bb_z0.cell0, bb_z0.cell1, bb_z0.cell2, br_z0.cell0, br_z0.cell1, br_z0.cell2⟩
        | with_reducible exact ⟨ba_4.cell0, ba_4.cell1, ba_4.cell2, bb_4.cell0, bb_4.cell1, bb_4.cell2, br_4.cell0, br_4.cell1, br_4.cell2⟩
        | fail)
      (first
        | (go_at_call 62; (with_reducible refine (rmul_L _ _ _ _ _ _ _ _ _ (dm p) (dm q) L (val_dg _) (val_dg _) HL.out h_4 k_4 HN.out.1 HN.out.2.1).mono ?_); rintro e w5 ⟨A5, c5, rfl, pr, b5⟩; have h_5 := h_4.below b5; have k_5 := k_4.below b5; have ba_5 := ba_4.below b5 ba_4.lt; have bb_5 := bb_4.below b5 bb_4.lt; have br_5 := br_4.below b5 br_4.lt; have F5 := below_then F4 (Nat.le_refl _) b5)
        | (go_at_call 62; (with_reducible refine (rmul_L _ _ _ _ _ _ _ _ _ (dm p) (dm q) L (val_dg _) (val_dg _) HL.out h_z0 k_z0 HN.out.1 HN.out.2.1).mono ?_); rintro e w5 ⟨A5, c5, rfl, pr, b5⟩; have h_5 := h_z0.below b5; have k_5 := k_z0.below b5; have ba_5 := ba_z0.below b5 ba_z0.lt; have bb_5 := bb_z0.below b5 bb_z0.lt; have br_5 := br_z0.below b5 br_z0.lt; have F5 := below_then F_z0 (Nat.le_refl _) b5; have zb_5 := zb_0.below b5 zb_0.lt)
        | (go_at_call 46; (with_reducible refine (rcan_pb s t _ (by cases s <;> cases t <;> rfl) _ _ _ (dm p) (dm q) e x _ HW.out p q _ pr HN.out.2.2 HP.out HQ.out HE.out.1 HE.out.2 H0.out.1 HR.out H0.out.2).mono ?_); rintro e w6 ⟨s6, A6, n6, c6, x6, rfl, y, b6⟩; have h_6 := h_5.below b6; have k_6 := k_5.below b6; have pr_6 := pr.below b6; have ba_6 := ba_5.below b6 ba_5.lt; have bb_6 := bb_5.below b6 bb_5.lt; have br_6 := br_5.below b6 br_5.lt; have F6 := below_then F5 (Nat.le_refl _) b6; have zb_6 := zb_5.below b6 zb_5.lt; have zk6_0 := zb_6.cell0; have zk6_1 := zb_6.cell1; have zk6_2 := zb_6.cell2; have zf6_0 := zb_6.frozen 0; have zf6_1 := zb_6.frozen 1; have zf6_2 := zb_6.frozen 2)
        | (go_at_call 46; (with_reducible refine (rcan_pb s t _ (by cases s <;> cases t <;> rfl) _ _ _ (dm p) (dm q) e x _ HW.out p q _ pr HN.out.2.2 HP.out HQ.out HE.out.1 HE.out.2 H0.out.1 HR.out H0.out.2).mono ?_); rintro e w6 ⟨s6, A6, n6, c6, x6, rfl, y, b6⟩; have h_6 := h_5.below b6; have k_6 := k_5.below b6; have pr_6 := pr.below b6; have ba_6 := ba_5.below b6 ba_5.lt; have bb_6 := bb_5.below b6 bb_5.lt; have br_6 := br_5.below b6 br_5.lt; have F6 := below_then F5 (Nat.le_refl _) b6)
        | (have h_z6 := h_5.alloc EY0; have k_z6 := k_5.alloc EY0; have pr_z6 := pr.alloc EY0; have ba_z6 := ba_5.alloc EY0; have bb_z6 := bb_5.alloc EY0; have br_z6 := br_5.alloc EY0; have lz_ba := ba_5.lt; have lz_bb := bb_5.lt; have lz_br := br_5.lt; have gl := F5.size; have F_z6 := F5.alloc F5.size EY0; have zb_5 := Sy.new (w5) (.bool false) (.slice none 0 0) (.int .i64 0); go_at_call 46; (with_reducible refine (rcan_pb s t _ (by cases s <;> cases t <;> rfl) _ _ _ (dm p) (dm q) e x _ HW.out p q _ pr_z6 HN.out.2.2 HP.out HQ.out HE.out.1 HE.out.2 H0.out.1 HR.out H0.out.2).mono ?_); rintro e w6 ⟨s6, A6, n6, c6, x6, rfl, y, b6⟩; have h_6 := h_z6.below b6; have k_6 := k_z6.below b6; have pr_6 := pr_z6.below b6; have ba_6 := ba_z6.below b6 ba_z6.lt; have bb_6 := bb_z6.below b6 bb_z6.lt; have br_6 := br_z6.below b6 br_z6.lt; have F6 := below_then F_z6 (Nat.le_refl _) b6; have zb_6 := zb_5.below b6 zb_5.lt; have zk6_0 := zb_6.cell0; have zk6_1 := zb_6.cell1; have zk6_2 := zb_6.cell2; have zf6_0 := zb_6.frozen 0; have zf6_1 := zb_6.frozen 1; have zf6_2 := zb_6.frozen 2)
        | fail)
    all_goals (go_wp2_with fail; go_meet; first | exact ⟨_, _, A5, c5, s6, A6, n6, c6, x6, rfl, rfl, rfl, zb_6.stor, gl, lz_ba, lz_bb, lz_br, ba_6.past (Nat.ne_of_lt lz_ba), bb_6.past (Nat.ne_of_lt lz_bb), br_6.past (Nat.ne_of_lt lz_br), y.storY zb_6 (.bool s6) (.slice A6 n6 c6) (.int .i64 x6), below_storQ F6 gl⟩ | exact ⟨_, _, A5, c5, s6, A6, n6, c6, x6, rfl, rfl, rfl, Sy.new w6 (.bool s6) (.slice A6 n6 c6) (.int .i64 x6), F6.size, ba_6.lt, bb_6.lt, br_6.lt, ba_6.alloc (EY s6 A6 n6 c6 x6), bb_6.alloc (EY s6 A6 n6 c6 x6), br_6.alloc (EY s6 A6 n6 c6 x6), y.alloc (EY s6 A6 n6 c6 x6), F6.alloc F6.size _⟩ | fail)
  case rest =>
    obtain ⟨wx3, g7, A5, c5, s6, A6, n6, c6, x6, rfl, rfl, rfl, bd_7, gl_7, lt_bd_ba, lt_bd_bb, lt_bd_br, ba_7, bb_7, br_7, y_7, F7⟩ := hcut
    have ba_u7 := ba_7.cell0
    have ba_v7 := ba_7.cell1
    have ba_w7 := ba_7.cell2
    have bb_u7 := bb_7.cell0
    have bb_v7 := bb_7.cell1
    have bb_w7 := bb_7.cell2
    have br_u7 := br_7.cell0
    have br_v7 := br_7.cell1
    have br_w7 := br_7.cell2
    have bd_u7 := bd_7.cell0
    have bd_v7 := bd_7.cell1
    have bd_w7 := bd_7.cell2
    have br_f07 := br_7.frozen 0
    have br_f17 := br_7.frozen 1
    have br_f27 := br_7.frozen 2
    go_wp2_with fail
    refine bodyPost_ret (v := .tuple #[.agg #[.bool false, .slice none 0 0, .int .i64 0], .int .i64 2]) (by simp [results, Tryd.results39, go_sem, (br_7.set0 (.bool false)).cell0, ((br_7.set0 (.bool false)).set1 (.slice none 0 0)).cell1, (((br_7.set0 (.bool false)).set1 (.slice none 0 0)).set2 (.int .i64 0)).cell2]) rfl (gde_end 2 F7 (by omega) br_7 (cy_zero _))
end Go.Proofs.YthiapkalmmgliaaDoor
