/-
  The program's interval: Valid, Contains, Within.
-/
import Derived.Test.YtnddhohjfjlaiaaGreatDoorVP
import Derived.Test.YtnddhohjfjlaiaaGreatDoorVB
namespace Go.Proofs.YtnddhohjfjlaiaaGreatDoor
open Go.RowKit
set_option linter.unusedVariables false
set_option linter.unusedSimpArgs false

theorem pcont_f (u v x : Rv) (p q z : Rat) (w : World) (hu : Iu w u p) (hv : Iu w v q) (hx : Iu w x z) (lu : Lu 4000 u) (lv : Lu 4000 v) (lx : Lu 4000 x) (h1 : decide (p ≤ z) = false) : Calls Tryz.prog 14 #[.agg #[.bool u.s, .slice u.A u.n u.c, .slice u.B u.m u.d, .bool v.s, .slice v.A v.n v.c, .slice v.B v.m v.d], .agg #[.bool x.s, .slice x.A x.n x.c, .slice x.B x.m x.d]] w (Asks w (.bool false)) := by
  obtain ⟨r1, hr1⟩ : ∃ r, sz (p - z).num = r := ⟨_, rfl⟩
  have e1 : decide (r1 ≤ 0) = false := by rw [← hr1, sz_dec]; exact h1
  have HR1 := hide hr1
  clear hr1 h1
  have hu_1 := hu.alloc (EV u v)
  have hv_1 := hv.alloc (EV u v)
  have hx_1 := hx.alloc (EV u v)
  have bx_1 : Sv ((w).alloc (EV u v)) (w.heap.size) u v := by have h_ := Sv.new (w) u v; exact h_
  have F1 := (Below.refl w.heap.size w).alloc (Nat.le_refl _) (EV u v)
  have hu_2 := hu_1.alloc (EU x)
  have hv_2 := hv_1.alloc (EU x)
  have hx_2 := hx_1.alloc (EU x)
  have bx_2 := bx_1.alloc (EU x)
  have by_2 : Su (((w).alloc (EV u v)).alloc (EU x)) (w.heap.size + 1) x := by have h_ := Su.new ((w).alloc (EV u v)) x; simp only [World.size_alloc] at h_; exact h_
  have F2 := F1.alloc F1.size (EU x)
  go_enter Tryz.func14, Tryz.ntmps14
  have bx_u2 := bx_2.cell0
  have bx_v2 := bx_2.cell1
  have bx_w2 := bx_2.cell2
  have bx_x2 := bx_2.cell3
  have bx_y2 := bx_2.cell4
  have bx_z2 := bx_2.cell5
  have by_u2 := by_2.cell0
  have by_v2 := by_2.cell1
  have by_w2 := by_2.cell2
  go_wp2_with fail
  refine (pcmp_u _ _ p z r1 _ HR1.out hu_2 hx_2 lu lx).mono ?_
  rintro e w3 ⟨rfl, b3⟩
  have hu_3 := hu_2.below b3
  have hv_3 := hv_2.below b3
  have hx_3 := hx_2.below b3
  have bx_3 := bx_2.below b3 bx_2.lt
  have by_3 := by_2.below b3 by_2.lt
  have F3 := below_then F2 (Nat.le_refl _) b3
  have bx_u3 := bx_3.cell0
  have bx_v3 := bx_3.cell1
  have bx_w3 := bx_3.cell2
  have bx_x3 := bx_3.cell3
  have bx_y3 := bx_3.cell4
  have bx_z3 := bx_3.cell5
  have by_u3 := by_3.cell0
  have by_v3 := by_3.cell1
  have by_w3 := by_3.cell2
  go_wp2
  go_ret
  exact ⟨rfl, F3⟩
theorem pcont_t (u v x : Rv) (p q z : Rat) (w : World) (hu : Iu w u p) (hv : Iu w v q) (hx : Iu w x z) (lu : Lu 4000 u) (lv : Lu 4000 v) (lx : Lu 4000 x) (h1 : decide (p ≤ z) = true) : Calls Tryz.prog 14 #[.agg #[.bool u.s, .slice u.A u.n u.c, .slice u.B u.m u.d, .bool v.s, .slice v.A v.n v.c, .slice v.B v.m v.d], .agg #[.bool x.s, .slice x.A x.n x.c, .slice x.B x.m x.d]] w (Asks w (.bool (decide (z ≤ q)))) := by
  obtain ⟨r1, hr1⟩ : ∃ r, sz (p - z).num = r := ⟨_, rfl⟩
  have e1 : decide (r1 ≤ 0) = true := by rw [← hr1, sz_dec]; exact h1
  have HR1 := hide hr1
  obtain ⟨r2, hr2⟩ : ∃ r, sz (z - q).num = r := ⟨_, rfl⟩
  rw [← sz_dec, hr2]
  have HR2 := hide hr2
  clear hr2
  clear hr1 h1
  have hu_1 := hu.alloc (EV u v)
  have hv_1 := hv.alloc (EV u v)
  have hx_1 := hx.alloc (EV u v)
  have bx_1 : Sv ((w).alloc (EV u v)) (w.heap.size) u v := by have h_ := Sv.new (w) u v; exact h_
  have F1 := (Below.refl w.heap.size w).alloc (Nat.le_refl _) (EV u v)
  have hu_2 := hu_1.alloc (EU x)
  have hv_2 := hv_1.alloc (EU x)
  have hx_2 := hx_1.alloc (EU x)
  have bx_2 := bx_1.alloc (EU x)
  have by_2 : Su (((w).alloc (EV u v)).alloc (EU x)) (w.heap.size + 1) x := by have h_ := Su.new ((w).alloc (EV u v)) x; simp only [World.size_alloc] at h_; exact h_
  have F2 := F1.alloc F1.size (EU x)
  go_enter Tryz.func14, Tryz.ntmps14
  have bx_u2 := bx_2.cell0
  have bx_v2 := bx_2.cell1
  have bx_w2 := bx_2.cell2
  have bx_x2 := bx_2.cell3
  have bx_y2 := bx_2.cell4
  have bx_z2 := bx_2.cell5
  have by_u2 := by_2.cell0
  have by_v2 := by_2.cell1
  have by_w2 := by_2.cell2
  go_wp2_with fail
  refine (pcmp_u _ _ p z r1 _ HR1.out hu_2 hx_2 lu lx).mono ?_
  rintro e w3 ⟨rfl, b3⟩
  have hu_3 := hu_2.below b3
  have hv_3 := hv_2.below b3
  have hx_3 := hx_2.below b3
  have bx_3 := bx_2.below b3 bx_2.lt
  have by_3 := by_2.below b3 by_2.lt
  have F3 := below_then F2 (Nat.le_refl _) b3
  have bx_u3 := bx_3.cell0
  have bx_v3 := bx_3.cell1
  have bx_w3 := bx_3.cell2
  have bx_x3 := bx_3.cell3
  have bx_y3 := bx_3.cell4
  have bx_z3 := bx_3.cell5
  have by_u3 := by_3.cell0
  have by_v3 := by_3.cell1
  have by_w3 := by_3.cell2
  go_wp2_with fail
  refine (pcmp_u _ _ z q r2 _ HR2.out hx_3 hv_3 lx lv).mono ?_
  rintro e w4 ⟨rfl, b4⟩
  have hu_4 := hu_3.below b4
  have hv_4 := hv_3.below b4
  have hx_4 := hx_3.below b4
  have bx_4 := bx_3.below b4 bx_3.lt
  have by_4 := by_3.below b4 by_3.lt
  have F4 := below_then F3 (Nat.le_refl _) b4
  have bx_u4 := bx_4.cell0
  have bx_v4 := bx_4.cell1
  have bx_w4 := bx_4.cell2
  have bx_x4 := bx_4.cell3
  have bx_y4 := bx_4.cell4
  have bx_z4 := bx_4.cell5
  have by_u4 := by_4.cell0
  have by_v4 := by_4.cell1
  have by_w4 := by_4.cell2
  go_wp2
  go_ret
  exact ⟨rfl, F4⟩
theorem pcont_iv (u v x : Rv) (p q z : Rat) (r : Bool) (w : World) (hr : (decide (p ≤ z) && decide (z ≤ q)) = r) (hu : Iu w u p) (hv : Iu w v q) (hx : Iu w x z) (lu : Lu 4000 u) (lv : Lu 4000 v) (lx : Lu 4000 x) : Calls Tryz.prog 14 #[.agg #[.bool u.s, .slice u.A u.n u.c, .slice u.B u.m u.d, .bool v.s, .slice v.A v.n v.c, .slice v.B v.m v.d], .agg #[.bool x.s, .slice x.A x.n x.c, .slice x.B x.m x.d]] w (Asks w (.bool r)) := by
  subst hr
  rcases Bool.eq_false_or_eq_true (decide (p ≤ z)) with h1 | h1
  · rw [h1]
    simpa using pcont_t u v x p q z w hu hv hx lu lv lx h1
  · rw [h1]
    simpa using pcont_f u v x p q z w hu hv hx lu lv lx h1
theorem pwithin_f (a c x y : Rv) (p q p' q' : Rat) (w : World) (ha : Iu w a p) (hc : Iu w c q) (hx : Iu w x p') (hy : Iu w y q') (la : Lu 4000 a) (lc : Lu 4000 c) (lx : Lu 4000 x) (ly : Lu 4000 y) (h1 : (decide (p' ≤ p) && decide (p ≤ q')) = false) : Calls Tryz.prog 9 #[.agg #[.bool a.s, .slice a.A a.n a.c, .slice a.B a.m a.d, .bool c.s, .slice c.A c.n c.c, .slice c.B c.m c.d], .agg #[.bool x.s, .slice x.A x.n x.c, .slice x.B x.m x.d, .bool y.s, .slice y.A y.n y.c, .slice y.B y.m y.d]] w (Asks w (.bool false)) := by
  have H1 := hide h1
  clear h1
  have ha_1 := ha.alloc (EV a c)
  have hc_1 := hc.alloc (EV a c)
  have hx_1 := hx.alloc (EV a c)
  have hy_1 := hy.alloc (EV a c)
  have ba_1 : Sv ((w).alloc (EV a c)) (w.heap.size) a c := by have h_ := Sv.new (w) a c; exact h_
  have F1 := (Below.refl w.heap.size w).alloc (Nat.le_refl _) (EV a c)
  have ha_2 := ha_1.alloc (EV x y)
  have hc_2 := hc_1.alloc (EV x y)
  have hx_2 := hx_1.alloc (EV x y)
  have hy_2 := hy_1.alloc (EV x y)
  have ba_2 := ba_1.alloc (EV x y)
  have bb_2 : Sv (((w).alloc (EV a c)).alloc (EV x y)) (w.heap.size + 1) x y := by have h_ := Sv.new ((w).alloc (EV a c)) x y; simp only [World.size_alloc] at h_; exact h_
  have F2 := F1.alloc F1.size (EV x y)
  go_enter Tryz.func9, Tryz.ntmps9
  have ba_u2 := ba_2.cell0
  have ba_v2 := ba_2.cell1
  have ba_w2 := ba_2.cell2
  have ba_x2 := ba_2.cell3
  have ba_y2 := ba_2.cell4
  have ba_z2 := ba_2.cell5
  have bb_u2 := bb_2.cell0
  have bb_v2 := bb_2.cell1
  have bb_w2 := bb_2.cell2
  have bb_x2 := bb_2.cell3
  have bb_y2 := bb_2.cell4
  have bb_z2 := bb_2.cell5
  go_wp2_with fail
  refine (pcont_iv _ _ _ p' q' p false _ H1.out hx_2 hy_2 ha_2 lx ly la).mono ?_
  rintro e w3 ⟨rfl, b3⟩
  have ha_3 := ha_2.below b3
  have hc_3 := hc_2.below b3
  have hx_3 := hx_2.below b3
  have hy_3 := hy_2.below b3
  have ba_3 := ba_2.below b3 ba_2.lt
  have bb_3 := bb_2.below b3 bb_2.lt
  have F3 := below_then F2 (Nat.le_refl _) b3
  have ba_u3 := ba_3.cell0
  have ba_v3 := ba_3.cell1
  have ba_w3 := ba_3.cell2
  have ba_x3 := ba_3.cell3
  have ba_y3 := ba_3.cell4
  have ba_z3 := ba_3.cell5
  have bb_u3 := bb_3.cell0
  have bb_v3 := bb_3.cell1
  have bb_w3 := bb_3.cell2
  have bb_x3 := bb_3.cell3
  have bb_y3 := bb_3.cell4
  have bb_z3 := bb_3.cell5
  go_wp2
  go_ret
  exact ⟨rfl, F3⟩
theorem pwithin_t (a c x y : Rv) (p q p' q' : Rat) (w : World) (ha : Iu w a p) (hc : Iu w c q) (hx : Iu w x p') (hy : Iu w y q') (la : Lu 4000 a) (lc : Lu 4000 c) (lx : Lu 4000 x) (ly : Lu 4000 y) (h1 : (decide (p' ≤ p) && decide (p ≤ q')) = true) : Calls Tryz.prog 9 #[.agg #[.bool a.s, .slice a.A a.n a.c, .slice a.B a.m a.d, .bool c.s, .slice c.A c.n c.c, .slice c.B c.m c.d], .agg #[.bool x.s, .slice x.A x.n x.c, .slice x.B x.m x.d, .bool y.s, .slice y.A y.n y.c, .slice y.B y.m y.d]] w (Asks w (.bool (decide (p' ≤ q) && decide (q ≤ q')))) := by
  have H1 := hide h1
  obtain ⟨r2, hr2⟩ : ∃ r, (decide (p' ≤ q) && decide (q ≤ q')) = r := ⟨_, rfl⟩
  rw [hr2]
  have HR2 := hide hr2
  clear hr2
  clear h1
  have ha_1 := ha.alloc (EV a c)
  have hc_1 := hc.alloc (EV a c)
  have hx_1 := hx.alloc (EV a c)
  have hy_1 := hy.alloc (EV a c)
  have ba_1 : Sv ((w).alloc (EV a c)) (w.heap.size) a c := by have h_ := Sv.new (w) a c; exact h_
  have F1 := (Below.refl w.heap.size w).alloc (Nat.le_refl _) (EV a c)
  have ha_2 := ha_1.alloc (EV x y)
  have hc_2 := hc_1.alloc (EV x y)
  have hx_2 := hx_1.alloc (EV x y)
  have hy_2 := hy_1.alloc (EV x y)
  have ba_2 := ba_1.alloc (EV x y)
  have bb_2 : Sv (((w).alloc (EV a c)).alloc (EV x y)) (w.heap.size + 1) x y := by have h_ := Sv.new ((w).alloc (EV a c)) x y; simp only [World.size_alloc] at h_; exact h_
  have F2 := F1.alloc F1.size (EV x y)
  go_enter Tryz.func9, Tryz.ntmps9
  have ba_u2 := ba_2.cell0
  have ba_v2 := ba_2.cell1
  have ba_w2 := ba_2.cell2
  have ba_x2 := ba_2.cell3
  have ba_y2 := ba_2.cell4
  have ba_z2 := ba_2.cell5
  have bb_u2 := bb_2.cell0
  have bb_v2 := bb_2.cell1
  have bb_w2 := bb_2.cell2
  have bb_x2 := bb_2.cell3
  have bb_y2 := bb_2.cell4
  have bb_z2 := bb_2.cell5
  go_wp2_with fail
  refine (pcont_iv _ _ _ p' q' p true _ H1.out hx_2 hy_2 ha_2 lx ly la).mono ?_
  rintro e w3 ⟨rfl, b3⟩
  have ha_3 := ha_2.below b3
  have hc_3 := hc_2.below b3
  have hx_3 := hx_2.below b3
  have hy_3 := hy_2.below b3
  have ba_3 := ba_2.below b3 ba_2.lt
  have bb_3 := bb_2.below b3 bb_2.lt
  have F3 := below_then F2 (Nat.le_refl _) b3
  have ba_u3 := ba_3.cell0
  have ba_v3 := ba_3.cell1
  have ba_w3 := ba_3.cell2
  have ba_x3 := ba_3.cell3
  have ba_y3 := ba_3.cell4
  have ba_z3 := ba_3.cell5
  have bb_u3 := bb_3.cell0
  have bb_v3 := bb_3.cell1
  have bb_w3 := bb_3.cell2
  have bb_x3 := bb_3.cell3
  have bb_y3 := bb_3.cell4
  have bb_z3 := bb_3.cell5
  go_wp2_with fail
  refine (pcont_iv _ _ _ p' q' q r2 _ HR2.out hx_3 hy_3 hc_3 lx ly lc).mono ?_
  rintro e w4 ⟨rfl, b4⟩
  have ha_4 := ha_3.below b4
  have hc_4 := hc_3.below b4
  have hx_4 := hx_3.below b4
  have hy_4 := hy_3.below b4
  have ba_4 := ba_3.below b4 ba_3.lt
  have bb_4 := bb_3.below b4 bb_3.lt
  have F4 := below_then F3 (Nat.le_refl _) b4
  have ba_u4 := ba_4.cell0
  have ba_v4 := ba_4.cell1
  have ba_w4 := ba_4.cell2
  have ba_x4 := ba_4.cell3
  have ba_y4 := ba_4.cell4
  have ba_z4 := ba_4.cell5
  have bb_u4 := bb_4.cell0
  have bb_v4 := bb_4.cell1
  have bb_w4 := bb_4.cell2
  have bb_x4 := bb_4.cell3
  have bb_y4 := bb_4.cell4
  have bb_z4 := bb_4.cell5
  go_wp2
  go_ret
  exact ⟨rfl, F4⟩
theorem pwithin_iv (a c x y : Rv) (p q p' q' : Rat) (r : Bool) (w : World) (hr : (decide (p' ≤ p) && decide (q ≤ q')) = r) (hpq : p ≤ q) (ha : Iu w a p) (hc : Iu w c q) (hx : Iu w x p') (hy : Iu w y q') (la : Lu 4000 a) (lc : Lu 4000 c) (lx : Lu 4000 x) (ly : Lu 4000 y) : Calls Tryz.prog 9 #[.agg #[.bool a.s, .slice a.A a.n a.c, .slice a.B a.m a.d, .bool c.s, .slice c.A c.n c.c, .slice c.B c.m c.d], .agg #[.bool x.s, .slice x.A x.n x.c, .slice x.B x.m x.d, .bool y.s, .slice y.A y.n y.c, .slice y.B y.m y.d]] w (Asks w (.bool r)) := by
  rcases Bool.eq_false_or_eq_true (decide (p' ≤ p) && decide (p ≤ q')) with h1 | h1
  · have h : (decide (p' ≤ q) && decide (q ≤ q')) = r := by
      rw [← hr]
      simp only [Bool.and_eq_true, decide_eq_true_eq] at h1
      rw [decide_eq_true h1.1, decide_eq_true (Rat.le_trans h1.1 hpq)]
    rw [← h]
    exact pwithin_t a c x y p q p' q' w ha hc hx hy la lc lx ly h1
  · have h : false = r := by
      rw [← hr]
      symm
      simp only [Bool.and_eq_false_iff, decide_eq_false_iff_not] at h1 ⊢
      rcases h1 with h1 | h1
      · exact .inl h1
      · exact .inr fun h2 => h1 (Rat.le_trans hpq h2)
    rw [← h]
    exact pwithin_f a c x y p q p' q' w ha hc hx hy la lc lx ly h1
end Go.Proofs.YtnddhohjfjlaiaaGreatDoor
