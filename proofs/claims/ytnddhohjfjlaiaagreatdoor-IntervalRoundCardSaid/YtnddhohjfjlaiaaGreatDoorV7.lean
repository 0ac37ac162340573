/-
  The specification's Round.
-/
import Derived.Test.YtnddhohjfjlaiaaGreatDoorVB
import Derived.Test.YtnddhohjfjlaiaaGreatDoorKC
namespace Go.Proofs.YtnddhohjfjlaiaaGreatDoor
open Go.RowKit
set_option linter.unusedVariables false
set_option linter.unusedSimpArgs false

theorem Sy.past3 {w : World} {g g' : Nat} {v0 v1 v2 u0 u1 u2 : Value} (h : Sy w g v0 v1 v2) (hg : g ≠ g') : Sy (((w.setCell ⟨g', 0, none⟩ u0).setCell ⟨g', 1, none⟩ u1).setCell ⟨g', 2, none⟩ u2) g v0 v1 v2 := h.past hg
theorem Sy.past6 {w : World} {g g' : Nat} {v0 v1 v2 u0 u1 u2 u3 u4 u5 : Value} (h : Sy w g v0 v1 v2) (hg : g ≠ g') : Sy ((((((w.setCell ⟨g', 0, none⟩ u0).setCell ⟨g', 1, none⟩ u1).setCell ⟨g', 2, none⟩ u2).setCell ⟨g', 3, none⟩ u3).setCell ⟨g', 4, none⟩ u4).setCell ⟨g', 5, none⟩ u5) g v0 v1 v2 := (((((h.far hg u0).far hg u1).far hg u2).far hg u3).far hg u4).far hg u5
theorem tq_pw {q : Rat} {k K : Nat} (up : Bool) (hk : 1 ≤ k) (hK : k ≤ 32 * K) : dm (tq q k up) < pw K := by
  have h := tq_dm (q := q) up hk
  rw [pw_pow]
  exact bl_iff.1 (Nat.le_trans h hK)
theorem down_u (u : Rv) (p y : Rat) (k : Nat) (P : Int) (w : World) (hy : tq p k false = y) (hP : P = (k : Int)) (h : Iu w u p) (sp : Qs 3 p) (hu : Lu 3 u) (hk : 1 ≤ k ∧ k ≤ 200) : Calls Tryz.prog 20 #[.agg #[.bool u.s, .slice u.A u.n u.c, .slice u.B u.m u.d], .int .i64 P] w (GDE w y 0) := by
  subst hy
  exact rydown_q _ _ _ _ _ _ _ k 3 P p w hP h (by have := hu.1; omega) (by have := hu.2; omega) sp (by decide) (by omega)
theorem up_u (u : Rv) (p y : Rat) (k : Nat) (P : Int) (w : World) (hy : tq p k true = y) (hP : P = (k : Int)) (h : Iu w u p) (sp : Qs 3 p) (hu : Lu 3 u) (hk : 1 ≤ k ∧ k ≤ 200) : Calls Tryz.prog 21 #[.agg #[.bool u.s, .slice u.A u.n u.c, .slice u.B u.m u.d], .int .i64 P] w (GDE w y 0) := by
  subst hy
  exact ryup_q _ _ _ _ _ _ _ k 3 P p w hP h (by have := hu.1; omega) (by have := hu.2; omega) sp (by decide) (by omega)
theorem rat_u (s : Bool) (A : Option Addr) (n c : Nat) (e : Int) (q : Rat) (w : World) (h : Cy w s A n c e q) (hq : dm q < pw 7) (he : -256000 < de q ∧ de q < 256000) : Calls Tryz.prog 22 #[.agg #[.bool s, .slice A n c, .int .i64 e]] w (GU w q) :=
  (ryrat s A n c e q w h (by have := h.ln hq; omega) (by rw [h.2.2.1]; exact he)).mono fun _ _ => gu_of
theorem round_no (u v : Rv) (p q : Rat) (P : Int) (w : World) (hu : Iu w u p) (hv : Iu w v q) (sp : Qs 3 p) (sq : Qs 3 q) (lu : Lu 3 u) (lv : Lu 3 v) (hP : P < 1 ∨ 4096 < P) : Calls Tryz.prog 7 #[.agg #[.bool u.s, .slice u.A u.n u.c, .slice u.B u.m u.d, .bool v.s, .slice v.A v.n v.c, .slice v.B v.m v.d], .int .i64 P] w (GVE w 0 0 1) := by
  have HP := hide hP
  clear hP
  have bx_1 : Sv ((w).alloc (EV u v)) (w.heap.size) u v := by have h_ := Sv.new (w) u v; exact h_
  have F1 := (Below.refl w.heap.size w).alloc (Nat.le_refl _) (EV u v)
  have bx_2 := bx_1.alloc EV0
  have br_2 : Sv (((w).alloc (EV u v)).alloc EV0) (w.heap.size + 1) Rv.zero Rv.zero := by have h_ := Sv.new ((w).alloc (EV u v)) Rv.zero Rv.zero; simp only [World.size_alloc] at h_; exact h_
  have F2 := F1.alloc F1.size EV0
  go_enter Tryz.func7, Tryz.ntmps7
  have bx_u2 := bx_2.cell0
  have bx_v2 := bx_2.cell1
  have bx_w2 := bx_2.cell2
  have bx_x2 := bx_2.cell3
  have bx_y2 := bx_2.cell4
  have bx_z2 := bx_2.cell5
  have br_u2 : (((w).alloc (EV u v)).alloc EV0).cell? ⟨w.heap.size + 1, 0, none⟩ = some (.bool false) := br_2.cell0
  have br_v2 : (((w).alloc (EV u v)).alloc EV0).cell? ⟨w.heap.size + 1, 1, none⟩ = some (.slice none 0 0) := br_2.cell1
  have br_w2 : (((w).alloc (EV u v)).alloc EV0).cell? ⟨w.heap.size + 1, 2, none⟩ = some (.slice none 0 0) := br_2.cell2
  have br_x2 : (((w).alloc (EV u v)).alloc EV0).cell? ⟨w.heap.size + 1, 3, none⟩ = some (.bool false) := br_2.cell3
  have br_y2 : (((w).alloc (EV u v)).alloc EV0).cell? ⟨w.heap.size + 1, 4, none⟩ = some (.slice none 0 0) := br_2.cell4
  have br_z2 : (((w).alloc (EV u v)).alloc EV0).cell? ⟨w.heap.size + 1, 5, none⟩ = some (.slice none 0 0) := br_2.cell5
  go_wp2_with fail
  refine (rydown_b _ _ _ _ _ _ _ P _ HP.out).mono ?_
  rintro e w3 ⟨s3, A3, n3, c3, x3, rfl, y, b3⟩
  have bx_3 := bx_2.below b3 bx_2.lt
  have br_3 := br_2.below b3 br_2.lt
  have F3 := below_then F2 (Nat.le_refl _) b3
  have bx_u3 := bx_3.cell0
  have bx_v3 := bx_3.cell1
  have bx_w3 := bx_3.cell2
  have bx_x3 := bx_3.cell3
  have bx_y3 := bx_3.cell4
  have bx_z3 := bx_3.cell5
  have br_u3 : (w3).cell? ⟨w.heap.size + 1, 0, none⟩ = some (.bool false) := br_3.cell0
  have br_v3 : (w3).cell? ⟨w.heap.size + 1, 1, none⟩ = some (.slice none 0 0) := br_3.cell1
  have br_w3 : (w3).cell? ⟨w.heap.size + 1, 2, none⟩ = some (.slice none 0 0) := br_3.cell2
  have br_x3 : (w3).cell? ⟨w.heap.size + 1, 3, none⟩ = some (.bool false) := br_3.cell3
  have br_y3 : (w3).cell? ⟨w.heap.size + 1, 4, none⟩ = some (.slice none 0 0) := br_3.cell4
  have br_z3 : (w3).cell? ⟨w.heap.size + 1, 5, none⟩ = some (.slice none 0 0) := br_3.cell5
  have br_f03 := br_3.frozen 0
  have br_f13 := br_3.frozen 1
  have br_f23 := br_3.frozen 2
  have br_f33 := br_3.frozen 3
  have br_f43 := br_3.frozen 4
  have br_f53 := br_3.frozen 5
  have lt_bd_bx := bx_3.lt
  have lt_bd_br := br_3.lt
  have y_4 := y.alloc (EY s3 A3 n3 c3 x3)
  have bx_4 := bx_3.alloc (EY s3 A3 n3 c3 x3)
  have br_4 := br_3.alloc (EY s3 A3 n3 c3 x3)
  have bd_4 : Sy ((w3).alloc (EY s3 A3 n3 c3 x3)) (w3.heap.size) (.bool s3) (.slice A3 n3 c3) (.int .i64 x3) := by have h_ := Sy.new (w3) (.bool s3) (.slice A3 n3 c3) (.int .i64 x3); exact h_
  have F4 := F3.alloc F3.size (EY s3 A3 n3 c3 x3)
  have bx_u4 := bx_4.cell0
  have bx_v4 := bx_4.cell1
  have bx_w4 := bx_4.cell2
  have bx_x4 := bx_4.cell3
  have bx_y4 := bx_4.cell4
  have bx_z4 := bx_4.cell5
  have br_u4 : ((w3).alloc (EY s3 A3 n3 c3 x3)).cell? ⟨w.heap.size + 1, 0, none⟩ = some (.bool false) := br_4.cell0
  have br_v4 : ((w3).alloc (EY s3 A3 n3 c3 x3)).cell? ⟨w.heap.size + 1, 1, none⟩ = some (.slice none 0 0) := br_4.cell1
  have br_w4 : ((w3).alloc (EY s3 A3 n3 c3 x3)).cell? ⟨w.heap.size + 1, 2, none⟩ = some (.slice none 0 0) := br_4.cell2
  have br_x4 : ((w3).alloc (EY s3 A3 n3 c3 x3)).cell? ⟨w.heap.size + 1, 3, none⟩ = some (.bool false) := br_4.cell3
  have br_y4 : ((w3).alloc (EY s3 A3 n3 c3 x3)).cell? ⟨w.heap.size + 1, 4, none⟩ = some (.slice none 0 0) := br_4.cell4
  have br_z4 : ((w3).alloc (EY s3 A3 n3 c3 x3)).cell? ⟨w.heap.size + 1, 5, none⟩ = some (.slice none 0 0) := br_4.cell5
  have bd_u4 := bd_4.cell0
  have bd_v4 := bd_4.cell1
  have bd_w4 := bd_4.cell2
  go_wp2_with fail
  refine bodyPost_ret (v := .tuple #[.agg #[.bool false, .slice none 0 0, .slice none 0 0, .bool false, .slice none 0 0, .slice none 0 0], .int .i64 1]) (by simp [results, Tryz.results7, go_sem, ((Sv.stor br_3 Rv.zero Rv.zero).alloc (EY s3 A3 n3 c3 x3)).cell0, ((Sv.stor br_3 Rv.zero Rv.zero).alloc (EY s3 A3 n3 c3 x3)).cell1, ((Sv.stor br_3 Rv.zero Rv.zero).alloc (EY s3 A3 n3 c3 x3)).cell2, ((Sv.stor br_3 Rv.zero Rv.zero).alloc (EY s3 A3 n3 c3 x3)).cell3, ((Sv.stor br_3 Rv.zero Rv.zero).alloc (EY s3 A3 n3 c3 x3)).cell4, ((Sv.stor br_3 Rv.zero Rv.zero).alloc (EY s3 A3 n3 c3 x3)).cell5]) rfl ((gve_end 1 F3 (by omega) br_3 (cu_zero _) (cu_zero _)).more _)
theorem round_iv (u v : Rv) (p q : Rat) (P : Int) (w : World) (hu : Iu w u p) (hv : Iu w v q) (sp : Qs 3 p) (sq : Qs 3 q) (lu : Lu 3 u) (lv : Lu 3 v) (k : Nat) (hP : P = (k : Int)) (hk : 1 ≤ k ∧ k ≤ 200) : Calls Tryz.prog 7 #[.agg #[.bool u.s, .slice u.A u.n u.c, .slice u.B u.m u.d, .bool v.s, .slice v.A v.n v.c, .slice v.B v.m v.d], .int .i64 P] w (GVE w (tq p k false) (tq q k true) 0) := by
  have d1 := tq_de (k := k) false hk.1 sp
  have d2 := tq_de (k := k) true hk.1 sq
  have m1 : dm (tq p k false) < pw 7 := tq_pw false hk.1 (by omega)
  have m2 : dm (tq q k true) < pw 7 := tq_pw true hk.1 (by omega)
  obtain ⟨y, hy⟩ : ∃ y, tq p k false = y := ⟨_, rfl⟩
  obtain ⟨z, hz⟩ : ∃ z, tq q k true = z := ⟨_, rfl⟩
  rw [hy] at d1 m1 ⊢
  rw [hz] at d2 m2 ⊢
  have D1 := hide (show -256000 < de y ∧ de y < 256000 by omega)
  have D2 := hide (show -256000 < de z ∧ de z < 256000 by omega)
  have HY := hide hy
  have HZ := hide hz
  have HP := hide hP
  have HK := hide hk
  clear hy hz hP hk d1 d2
  have hu_1 := hu.alloc (EV u v)
  have hv_1 := hv.alloc (EV u v)
  have bx_1 : Sv ((w).alloc (EV u v)) (w.heap.size) u v := by have h_ := Sv.new (w) u v; exact h_
  have F1 := (Below.refl w.heap.size w).alloc (Nat.le_refl _) (EV u v)
  have hu_2 := hu_1.alloc EV0
  have hv_2 := hv_1.alloc EV0
  have bx_2 := bx_1.alloc EV0
  have br_2 : Sv (((w).alloc (EV u v)).alloc EV0) (w.heap.size + 1) Rv.zero Rv.zero := by have h_ := Sv.new ((w).alloc (EV u v)) Rv.zero Rv.zero; simp only [World.size_alloc] at h_; exact h_
  have F2 := F1.alloc F1.size EV0
  go_enter Tryz.func7, Tryz.ntmps7
  have bx_u2 := bx_2.cell0
  have bx_v2 := bx_2.cell1
  have bx_w2 := bx_2.cell2
  have bx_x2 := bx_2.cell3
  have bx_y2 := bx_2.cell4
  have bx_z2 := bx_2.cell5
  have br_u2 : (((w).alloc (EV u v)).alloc EV0).cell? ⟨w.heap.size + 1, 0, none⟩ = some (.bool false) := br_2.cell0
  have br_v2 : (((w).alloc (EV u v)).alloc EV0).cell? ⟨w.heap.size + 1, 1, none⟩ = some (.slice none 0 0) := br_2.cell1
  have br_w2 : (((w).alloc (EV u v)).alloc EV0).cell? ⟨w.heap.size + 1, 2, none⟩ = some (.slice none 0 0) := br_2.cell2
  have br_x2 : (((w).alloc (EV u v)).alloc EV0).cell? ⟨w.heap.size + 1, 3, none⟩ = some (.bool false) := br_2.cell3
  have br_y2 : (((w).alloc (EV u v)).alloc EV0).cell? ⟨w.heap.size + 1, 4, none⟩ = some (.slice none 0 0) := br_2.cell4
  have br_z2 : (((w).alloc (EV u v)).alloc EV0).cell? ⟨w.heap.size + 1, 5, none⟩ = some (.slice none 0 0) := br_2.cell5
  go_wp2_with fail
  refine (down_u _ p y k P _ HY.out HP.out hu_2 sp lu HK.out).mono ?_
  rintro e w3 ⟨s3, A3, n3, c3, x3, rfl, y1, b3⟩
  have hu_3 := hu_2.below b3
  have hv_3 := hv_2.below b3
  have bx_3 := bx_2.below b3 bx_2.lt
  have br_3 := br_2.below b3 br_2.lt
  have F3 := below_then F2 (Nat.le_refl _) b3
  have bx_u3 := bx_3.cell0
  have bx_v3 := bx_3.cell1
  have bx_w3 := bx_3.cell2
  have bx_x3 := bx_3.cell3
  have bx_y3 := bx_3.cell4
  have bx_z3 := bx_3.cell5
  have br_u3 : (w3).cell? ⟨w.heap.size + 1, 0, none⟩ = some (.bool false) := br_3.cell0
  have br_v3 : (w3).cell? ⟨w.heap.size + 1, 1, none⟩ = some (.slice none 0 0) := br_3.cell1
  have br_w3 : (w3).cell? ⟨w.heap.size + 1, 2, none⟩ = some (.slice none 0 0) := br_3.cell2
  have br_x3 : (w3).cell? ⟨w.heap.size + 1, 3, none⟩ = some (.bool false) := br_3.cell3
  have br_y3 : (w3).cell? ⟨w.heap.size + 1, 4, none⟩ = some (.slice none 0 0) := br_3.cell4
  have br_z3 : (w3).cell? ⟨w.heap.size + 1, 5, none⟩ = some (.slice none 0 0) := br_3.cell5
  have lt_b1_bx := bx_3.lt
  have lt_b1_br := br_3.lt
  have hu_4 := hu_3.alloc (EY s3 A3 n3 c3 x3)
  have hv_4 := hv_3.alloc (EY s3 A3 n3 c3 x3)
  have y1_4 := y1.alloc (EY s3 A3 n3 c3 x3)
  have bx_4 := bx_3.alloc (EY s3 A3 n3 c3 x3)
  have br_4 := br_3.alloc (EY s3 A3 n3 c3 x3)
  have b1_4 : Sy ((w3).alloc (EY s3 A3 n3 c3 x3)) (w3.heap.size) (.bool s3) (.slice A3 n3 c3) (.int .i64 x3) := by have h_ := Sy.new (w3) (.bool s3) (.slice A3 n3 c3) (.int .i64 x3); exact h_
  have F4 := F3.alloc F3.size (EY s3 A3 n3 c3 x3)
  have bx_u4 := bx_4.cell0
  have bx_v4 := bx_4.cell1
  have bx_w4 := bx_4.cell2
  have bx_x4 := bx_4.cell3
  have bx_y4 := bx_4.cell4
  have bx_z4 := bx_4.cell5
  have br_u4 : ((w3).alloc (EY s3 A3 n3 c3 x3)).cell? ⟨w.heap.size + 1, 0, none⟩ = some (.bool false) := br_4.cell0
  have br_v4 : ((w3).alloc (EY s3 A3 n3 c3 x3)).cell? ⟨w.heap.size + 1, 1, none⟩ = some (.slice none 0 0) := br_4.cell1
  have br_w4 : ((w3).alloc (EY s3 A3 n3 c3 x3)).cell? ⟨w.heap.size + 1, 2, none⟩ = some (.slice none 0 0) := br_4.cell2
  have br_x4 : ((w3).alloc (EY s3 A3 n3 c3 x3)).cell? ⟨w.heap.size + 1, 3, none⟩ = some (.bool false) := br_4.cell3
  have br_y4 : ((w3).alloc (EY s3 A3 n3 c3 x3)).cell? ⟨w.heap.size + 1, 4, none⟩ = some (.slice none 0 0) := br_4.cell4
  have br_z4 : ((w3).alloc (EY s3 A3 n3 c3 x3)).cell? ⟨w.heap.size + 1, 5, none⟩ = some (.slice none 0 0) := br_4.cell5
  have b1_u4 := b1_4.cell0
  have b1_v4 := b1_4.cell1
  have b1_w4 := b1_4.cell2
  go_wp2_with fail
  refine (up_u _ q z k P _ HZ.out HP.out hv_4 sq lv HK.out).mono ?_
  rintro e w5 ⟨s5, A5, n5, c5, x5, rfl, y2, b5⟩
  have hv_5 := hv_4.below b5
  have y1_5 := y1_4.below b5
  have bx_5 := bx_4.below b5 bx_4.lt
  have br_5 := br_4.below b5 br_4.lt
  have b1_5 := b1_4.below b5 b1_4.lt
  have F5 := below_then F4 (Nat.le_refl _) b5
  have bx_u5 := bx_5.cell0
  have bx_v5 := bx_5.cell1
  have bx_w5 := bx_5.cell2
  have bx_x5 := bx_5.cell3
  have bx_y5 := bx_5.cell4
  have bx_z5 := bx_5.cell5
  have br_u5 : (w5).cell? ⟨w.heap.size + 1, 0, none⟩ = some (.bool false) := br_5.cell0
  have br_v5 : (w5).cell? ⟨w.heap.size + 1, 1, none⟩ = some (.slice none 0 0) := br_5.cell1
  have br_w5 : (w5).cell? ⟨w.heap.size + 1, 2, none⟩ = some (.slice none 0 0) := br_5.cell2
  have br_x5 : (w5).cell? ⟨w.heap.size + 1, 3, none⟩ = some (.bool false) := br_5.cell3
  have br_y5 : (w5).cell? ⟨w.heap.size + 1, 4, none⟩ = some (.slice none 0 0) := br_5.cell4
  have br_z5 : (w5).cell? ⟨w.heap.size + 1, 5, none⟩ = some (.slice none 0 0) := br_5.cell5
  have b1_u5 := b1_5.cell0
  have b1_v5 := b1_5.cell1
  have b1_w5 := b1_5.cell2
  have lt_b2_bx := bx_5.lt
  have lt_b2_br := br_5.lt
  have lt_b2_b1 := b1_5.lt
  have hv_6 := hv_5.alloc (EY s5 A5 n5 c5 x5)
  have y1_6 := y1_5.alloc (EY s5 A5 n5 c5 x5)
  have y2_6 := y2.alloc (EY s5 A5 n5 c5 x5)
  have bx_6 := bx_5.alloc (EY s5 A5 n5 c5 x5)
  have br_6 := br_5.alloc (EY s5 A5 n5 c5 x5)
  have b1_6 := b1_5.alloc (EY s5 A5 n5 c5 x5)
  have b2_6 : Sy ((w5).alloc (EY s5 A5 n5 c5 x5)) (w5.heap.size) (.bool s5) (.slice A5 n5 c5) (.int .i64 x5) := by have h_ := Sy.new (w5) (.bool s5) (.slice A5 n5 c5) (.int .i64 x5); exact h_
  have F6 := F5.alloc F5.size (EY s5 A5 n5 c5 x5)
  have bx_u6 := bx_6.cell0
  have bx_v6 := bx_6.cell1
  have bx_w6 := bx_6.cell2
  have bx_x6 := bx_6.cell3
  have bx_y6 := bx_6.cell4
  have bx_z6 := bx_6.cell5
  have br_u6 : ((w5).alloc (EY s5 A5 n5 c5 x5)).cell? ⟨w.heap.size + 1, 0, none⟩ = some (.bool false) := br_6.cell0
  have br_v6 : ((w5).alloc (EY s5 A5 n5 c5 x5)).cell? ⟨w.heap.size + 1, 1, none⟩ = some (.slice none 0 0) := br_6.cell1
  have br_w6 : ((w5).alloc (EY s5 A5 n5 c5 x5)).cell? ⟨w.heap.size + 1, 2, none⟩ = some (.slice none 0 0) := br_6.cell2
  have br_x6 : ((w5).alloc (EY s5 A5 n5 c5 x5)).cell? ⟨w.heap.size + 1, 3, none⟩ = some (.bool false) := br_6.cell3
  have br_y6 : ((w5).alloc (EY s5 A5 n5 c5 x5)).cell? ⟨w.heap.size + 1, 4, none⟩ = some (.slice none 0 0) := br_6.cell4
  have br_z6 : ((w5).alloc (EY s5 A5 n5 c5 x5)).cell? ⟨w.heap.size + 1, 5, none⟩ = some (.slice none 0 0) := br_6.cell5
  have b1_u6 := b1_6.cell0
  have b1_v6 := b1_6.cell1
  have b1_w6 := b1_6.cell2
  have b2_u6 := b2_6.cell0
  have b2_v6 := b2_6.cell1
  have b2_w6 := b2_6.cell2
  go_wp2_with fail
  have y1_7 := y1_6.drew
  have y2_7 := y2_6.drew
  have bx_7 := bx_6.drew
  have br_7 := br_6.drew
  have b1_7 := b1_6.drew
  have b2_7 := b2_6.drew
  have F7 := F6.drew
  go_region_held3 (fun w' => w'.cell? ⟨w3.heap.size, 0, none⟩ = some (.bool s3) ∧ w'.cell? ⟨w3.heap.size, 1, none⟩ = some (.slice A3 n3 c3) ∧ w'.cell? ⟨w3.heap.size, 2, none⟩ = some (.int .i64 x3) ∧ w'.cell? ⟨w5.heap.size, 0, none⟩ = some (.bool s5) ∧ w'.cell? ⟨w5.heap.size, 1, none⟩ = some (.slice A5 n5 c5) ∧ w'.cell? ⟨w5.heap.size, 2, none⟩ = some (.int .i64 x5))
    (first
      | with_reducible exact ⟨b1_p.cell0, b1_p.cell1, b1_p.cell2, b2_p.cell0, b2_p.cell1, b2_p.cell2⟩
      | with_reducible exact ⟨b1_9.cell0, b1_9.cell1, b1_9.cell2, b2_9.cell0, b2_9.cell1, b2_9.cell2⟩
      | with_reducible exact ⟨b1_8.cell0, b1_8.cell1, b1_8.cell2, b2_8.cell0, b2_8.cell1, b2_8.cell2⟩
      | with_reducible exact ⟨b1_7.cell0, b1_7.cell1, b1_7.cell2, b2_7.cell0, b2_7.cell1, b2_7.cell2⟩
      | fail)
    (first
      | (go_at_call 22; (with_reducible refine (rat_u _ _ _ _ _ y _ y1_7 m1 D1.out).mono ?_); rintro e w8 ⟨u8, rfl, z1, b8⟩; have y1_8 := y1_7.below b8; have y2_8 := y2_7.below b8; have bx_8 := bx_7.below b8 bx_7.lt; have br_8 := br_7.below b8 br_7.lt; have b1_8 := b1_7.below b8 b1_7.lt; have b2_8 := b2_7.below b8 b2_7.lt; have F8 := below_then F7 (Nat.le_refl _) b8)
      | (go_at_call 22; (with_reducible refine (rat_u _ _ _ _ _ z _ y2_8 m2 D2.out).mono ?_); rintro e w9 ⟨u9, rfl, z2, b9⟩; have y1_9 := y1_8.below b9; have y2_9 := y2_8.below b9; have z1_9 := z1.below b9; have bx_9 := bx_8.below b9 bx_8.lt; have br_9 := br_8.below b9 br_8.lt; have b1_9 := b1_8.below b9 b1_8.lt; have b2_9 := b2_8.below b9 b2_8.lt; have F9 := below_then F8 (Nat.le_refl _) b9; have br_g0 := br_9.cell0; have br_h0 := br_9.frozen 0; have br_g1 := br_9.cell1; have br_h1 := br_9.frozen 1; have br_g2 := br_9.cell2; have br_h2 := br_9.frozen 2; have br_g3 := br_9.cell3; have br_h3 := br_9.frozen 3; have br_g4 := br_9.cell4; have br_h4 := br_9.frozen 4; have br_g5 := br_9.cell5; have br_h5 := br_9.frozen 5; have b1_p := b1_9.past6 (g' := w.heap.size + 1) (u0 := .bool u8.s) (u1 := .slice u8.A u8.n u8.c) (u2 := .slice u8.B u8.m u8.d) (u3 := .bool u9.s) (u4 := .slice u9.A u9.n u9.c) (u5 := .slice u9.B u9.m u9.d) (by omega); have b2_p := b2_9.past6 (g' := w.heap.size + 1) (u0 := .bool u8.s) (u1 := .slice u8.A u8.n u8.c) (u2 := .slice u8.B u8.m u8.d) (u3 := .bool u9.s) (u4 := .slice u9.A u9.n u9.c) (u5 := .slice u9.B u9.m u9.d) (by omega))
      | fail)
  go_wp2_with fail
  refine bodyPost_ret (v := .tuple #[.agg #[.bool u8.s, .slice u8.A u8.n u8.c, .slice u8.B u8.m u8.d, .bool u9.s, .slice u9.A u9.n u9.c, .slice u9.B u9.m u9.d], .int .i64 0]) (by simp [results, Tryz.results7, go_sem, (Sv.stor br_9 u8 u9).cell0, (Sv.stor br_9 u8 u9).cell1, (Sv.stor br_9 u8 u9).cell2, (Sv.stor br_9 u8 u9).cell3, (Sv.stor br_9 u8 u9).cell4, (Sv.stor br_9 u8 u9).cell5]) rfl (gve_end 0 F9 (by omega) br_9 z1_9 z2)
end Go.Proofs.YtnddhohjfjlaiaaGreatDoor
