/-
  The program's interval: Scale.
-/
import Derived.Test.YtnddhohjfjlaiaaX3
import Derived.Test.YtnddhohjfjlaiaaV5
namespace Go.Proofs.Ytnddhohjfjlaiaa
open Go.RowKit
set_option linter.unusedVariables false
set_option linter.unusedSimpArgs false

theorem sz_lt0 (z : Rat) : decide (sz z.num < 0) = decide (z < 0) := by
  rw [decide_eq_decide, sz_neg]
  constructor
  · intro h
    by_cases h0 : z < 0
    · exact h0
    · have := Rat.num_nonneg.2 (Rat.not_lt.1 h0)
      omega
  · intro h
    by_cases h0 : z.num < 0
    · exact h0
    · exact absurd h (Rat.not_lt.2 (Rat.num_nonneg.1 (by omega)))
theorem scl_pos {p q z : Rat} (hpq : p ≤ q) (hz : 0 ≤ z) : min (p * z) (q * z) = p * z ∧ max (p * z) (q * z) = q * z := by
  have h : p * z ≤ q * z := Rat.mul_le_mul_of_nonneg_right hpq hz
  rw [Rat.min_def, Rat.max_def]
  constructor <;> grind
theorem scl_neg {p q z : Rat} (hpq : p ≤ q) (hz : z < 0) : min (p * z) (q * z) = q * z ∧ max (p * z) (q * z) = p * z := by
  have h0 : p * (-z) ≤ q * (-z) := Rat.mul_le_mul_of_nonneg_right hpq (by grind)
  have h : q * z ≤ p * z := by grind
  rw [Rat.min_def, Rat.max_def]
  constructor <;> grind
set_option maxHeartbeats 2000000 in
theorem pscale_pos (a c x : Rv) (p q z : Rat) (w : World) (hz : decide (z < 0) = false) (ha : Iu w a p) (hc : Iu w c q) (hx : Iu w x z) (la : Lu 4000 a) (lc : Lu 4000 c) (lx : Lu 4000 x) : Calls Try.prog 21 #[.agg #[.bool a.s, .slice a.A a.n a.c, .slice a.B a.m a.d, .bool c.s, .slice c.A c.n c.c, .slice c.B c.m c.d], .agg #[.bool x.s, .slice x.A x.n x.c, .slice x.B x.m x.d]] w (GV w (p * z) (q * z)) := by
  obtain ⟨r, hr⟩ : ∃ r, sz z.num = r := ⟨_, rfl⟩
  have e1 : decide (r < 0) = false := by rw [← hr, sz_lt0]; exact hz
  have HR := hide hr
  clear hr hz
  have ha_1 := ha.alloc (EV a c)
  have hc_1 := hc.alloc (EV a c)
  have hx_1 := hx.alloc (EV a c)
  have bx_1 : Sv ((w).alloc (EV a c)) (w.heap.size) a c := by have h_ := Sv.new (w) a c; exact h_
  have F1 := (Below.refl w.heap.size w).alloc (Nat.le_refl _) (EV a c)
  have ha_2 := ha_1.alloc (EU x)
  have hc_2 := hc_1.alloc (EU x)
  have hx_2 := hx_1.alloc (EU x)
  have bx_2 := bx_1.alloc (EU x)
  have by_2 : Su (((w).alloc (EV a c)).alloc (EU x)) (w.heap.size + 1) x := by have h_ := Su.new ((w).alloc (EV a c)) x; simp only [World.size_alloc] at h_; exact h_
  have F2 := F1.alloc F1.size (EU x)
  have ha_3 := ha_2.alloc EV0
  have hc_3 := hc_2.alloc EV0
  have hx_3 := hx_2.alloc EV0
  have bx_3 := bx_2.alloc EV0
  have by_3 := by_2.alloc EV0
  have br_3 : Sv ((((w).alloc (EV a c)).alloc (EU x)).alloc EV0) (w.heap.size + 2) Rv.zero Rv.zero := by have h_ := Sv.new (((w).alloc (EV a c)).alloc (EU x)) Rv.zero Rv.zero; simp only [World.size_alloc] at h_; exact h_
  have F3 := F2.alloc F2.size EV0
  go_enter Try.func21, Try.ntmps21
  have bx_u3 := bx_3.cell0
  have bx_v3 := bx_3.cell1
  have bx_w3 := bx_3.cell2
  have bx_x3 := bx_3.cell3
  have bx_y3 := bx_3.cell4
  have bx_z3 := bx_3.cell5
  have by_u3 := by_3.cell0
  have by_v3 := by_3.cell1
  have by_w3 := by_3.cell2
  have br_u3 : ((((w).alloc (EV a c)).alloc (EU x)).alloc EV0).cell? ⟨w.heap.size + 2, 0, none⟩ = some (.bool false) := br_3.cell0
  have br_v3 : ((((w).alloc (EV a c)).alloc (EU x)).alloc EV0).cell? ⟨w.heap.size + 2, 1, none⟩ = some (.slice none 0 0) := br_3.cell1
  have br_w3 : ((((w).alloc (EV a c)).alloc (EU x)).alloc EV0).cell? ⟨w.heap.size + 2, 2, none⟩ = some (.slice none 0 0) := br_3.cell2
  have br_x3 : ((((w).alloc (EV a c)).alloc (EU x)).alloc EV0).cell? ⟨w.heap.size + 2, 3, none⟩ = some (.bool false) := br_3.cell3
  have br_y3 : ((((w).alloc (EV a c)).alloc (EU x)).alloc EV0).cell? ⟨w.heap.size + 2, 4, none⟩ = some (.slice none 0 0) := br_3.cell4
  have br_z3 : ((((w).alloc (EV a c)).alloc (EU x)).alloc EV0).cell? ⟨w.heap.size + 2, 5, none⟩ = some (.slice none 0 0) := br_3.cell5
  go_wp2_with fail
  refine (psign_u _ z r _ HR.out hx_3 lx).mono ?_
  rintro e w4 ⟨rfl, b4⟩
  have ha_4 := ha_3.below b4
  have hc_4 := hc_3.below b4
  have hx_4 := hx_3.below b4
  have bx_4 := bx_3.below b4 bx_3.lt
  have by_4 := by_3.below b4 by_3.lt
  have br_4 := br_3.below b4 br_3.lt
  have F4 := below_then F3 (Nat.le_refl _) b4
  have bx_u4 := bx_4.cell0
  have bx_v4 := bx_4.cell1
  have bx_w4 := bx_4.cell2
  have bx_x4 := bx_4.cell3
  have bx_y4 := bx_4.cell4
  have bx_z4 := bx_4.cell5
  have by_u4 := by_4.cell0
  have by_v4 := by_4.cell1
  have by_w4 := by_4.cell2
  have br_u4 : (w4).cell? ⟨w.heap.size + 2, 0, none⟩ = some (.bool false) := br_4.cell0
  have br_v4 : (w4).cell? ⟨w.heap.size + 2, 1, none⟩ = some (.slice none 0 0) := br_4.cell1
  have br_w4 : (w4).cell? ⟨w.heap.size + 2, 2, none⟩ = some (.slice none 0 0) := br_4.cell2
  have br_x4 : (w4).cell? ⟨w.heap.size + 2, 3, none⟩ = some (.bool false) := br_4.cell3
  have br_y4 : (w4).cell? ⟨w.heap.size + 2, 4, none⟩ = some (.slice none 0 0) := br_4.cell4
  have br_z4 : (w4).cell? ⟨w.heap.size + 2, 5, none⟩ = some (.slice none 0 0) := br_4.cell5
  go_wp2_with fail
  have ha_5 := ha_4.drew
  have hc_5 := hc_4.drew
  have hx_5 := hx_4.drew
  have bx_5 := bx_4.drew
  have by_5 := by_4.drew
  have br_5 := br_4.drew
  have F5 := F4.drew
  go_region_held3 (fun w' => w'.cell? ⟨w.heap.size, 0, none⟩ = some (.bool a.s) ∧ w'.cell? ⟨w.heap.size, 1, none⟩ = some (.slice a.A a.n a.c) ∧ w'.cell? ⟨w.heap.size, 2, none⟩ = some (.slice a.B a.m a.d) ∧ w'.cell? ⟨w.heap.size, 3, none⟩ = some (.bool c.s) ∧ w'.cell? ⟨w.heap.size, 4, none⟩ = some (.slice c.A c.n c.c) ∧ w'.cell? ⟨w.heap.size, 5, none⟩ = some (.slice c.B c.m c.d) ∧ w'.cell? ⟨w.heap.size + 1, 0, none⟩ = some (.bool x.s) ∧ w'.cell? ⟨w.heap.size + 1, 1, none⟩ = some (.slice x.A x.n x.c) ∧ w'.cell? ⟨w.heap.size + 1, 2, none⟩ = some (.slice x.B x.m x.d))
    (first
      | with_reducible exact ⟨bx_p.cell0, bx_p.cell1, bx_p.cell2, bx_p.cell3, bx_p.cell4, bx_p.cell5, by_p.cell0, by_p.cell1, by_p.cell2⟩
      | with_reducible exact ⟨bx_7.cell0, bx_7.cell1, bx_7.cell2, bx_7.cell3, bx_7.cell4, bx_7.cell5, by_7.cell0, by_7.cell1, by_7.cell2⟩
      | with_reducible exact ⟨bx_6.cell0, bx_6.cell1, bx_6.cell2, bx_6.cell3, bx_6.cell4, bx_6.cell5, by_6.cell0, by_6.cell1, by_6.cell2⟩
      | with_reducible exact ⟨bx_5.cell0, bx_5.cell1, bx_5.cell2, bx_5.cell3, bx_5.cell4, bx_5.cell5, by_5.cell0, by_5.cell1, by_5.cell2⟩
      | fail)
    (first
      | (go_at_call 51; (with_reducible refine (pmul_u _ _ p z (p * z) _ rfl ha_5 hx_5 la lx).mono ?_); rintro e w6 ⟨u6, rfl, z1, b6⟩; have ha_6 := ha_5.below b6; have hc_6 := hc_5.below b6; have hx_6 := hx_5.below b6; have bx_6 := bx_5.below b6 bx_5.lt; have by_6 := by_5.below b6 by_5.lt; have br_6 := br_5.below b6 br_5.lt; have F6 := below_then F5 (Nat.le_refl _) b6)
      | (go_at_call 51; (with_reducible refine (pmul_u _ _ q z (q * z) _ rfl hc_6 hx_6 lc lx).mono ?_); rintro e w7 ⟨u7, rfl, z2, b7⟩; have ha_7 := ha_6.below b7; have hc_7 := hc_6.below b7; have hx_7 := hx_6.below b7; have z1_7 := z1.below b7; have bx_7 := bx_6.below b7 bx_6.lt; have by_7 := by_6.below b7 by_6.lt; have br_7 := br_6.below b7 br_6.lt; have F7 := below_then F6 (Nat.le_refl _) b7; have br_g0 := br_7.cell0; have br_h0 := br_7.frozen 0; have br_g1 := br_7.cell1; have br_h1 := br_7.frozen 1; have br_g2 := br_7.cell2; have br_h2 := br_7.frozen 2; have br_g3 := br_7.cell3; have br_h3 := br_7.frozen 3; have br_g4 := br_7.cell4; have br_h4 := br_7.frozen 4; have br_g5 := br_7.cell5; have br_h5 := br_7.frozen 5; have bx_p := bx_7.past6 (g' := w.heap.size + 2) (u0 := .bool u6.s) (u1 := .slice u6.A u6.n u6.c) (u2 := .slice u6.B u6.m u6.d) (u3 := .bool u7.s) (u4 := .slice u7.A u7.n u7.c) (u5 := .slice u7.B u7.m u7.d) (by omega); have by_p := by_7.past6 (g' := w.heap.size + 2) (u0 := .bool u6.s) (u1 := .slice u6.A u6.n u6.c) (u2 := .slice u6.B u6.m u6.d) (u3 := .bool u7.s) (u4 := .slice u7.A u7.n u7.c) (u5 := .slice u7.B u7.m u7.d) (by omega))
      | fail)
  go_wp2_with fail
  refine bodyPost_ret (v := .agg #[.bool u6.s, .slice u6.A u6.n u6.c, .slice u6.B u6.m u6.d, .bool u7.s, .slice u7.A u7.n u7.c, .slice u7.B u7.m u7.d]) (by simp [results, Try.results21, go_sem, (Sv.stor br_7 u6 u7).cell0, (Sv.stor br_7 u6 u7).cell1, (Sv.stor br_7 u6 u7).cell2, (Sv.stor br_7 u6 u7).cell3, (Sv.stor br_7 u6 u7).cell4, (Sv.stor br_7 u6 u7).cell5]) rfl (gv_end F7 (by omega) br_7 z1_7 z2)
set_option maxHeartbeats 2000000 in
theorem pscale_neg (a c x : Rv) (p q z : Rat) (w : World) (hz : decide (z < 0) = true) (ha : Iu w a p) (hc : Iu w c q) (hx : Iu w x z) (la : Lu 4000 a) (lc : Lu 4000 c) (lx : Lu 4000 x) : Calls Try.prog 21 #[.agg #[.bool a.s, .slice a.A a.n a.c, .slice a.B a.m a.d, .bool c.s, .slice c.A c.n c.c, .slice c.B c.m c.d], .agg #[.bool x.s, .slice x.A x.n x.c, .slice x.B x.m x.d]] w (GV w (q * z) (p * z)) := by
  obtain ⟨r, hr⟩ : ∃ r, sz z.num = r := ⟨_, rfl⟩
  have e1 : decide (r < 0) = true := by rw [← hr, sz_lt0]; exact hz
  have HR := hide hr
  clear hr hz
  have ha_1 := ha.alloc (EV a c)
  have hc_1 := hc.alloc (EV a c)
  have hx_1 := hx.alloc (EV a c)
  have bx_1 : Sv ((w).alloc (EV a c)) (w.heap.size) a c := by have h_ := Sv.new (w) a c; exact h_
  have F1 := (Below.refl w.heap.size w).alloc (Nat.le_refl _) (EV a c)
  have ha_2 := ha_1.alloc (EU x)
  have hc_2 := hc_1.alloc (EU x)
  have hx_2 := hx_1.alloc (EU x)
  have bx_2 := bx_1.alloc (EU x)
  have by_2 : Su (((w).alloc (EV a c)).alloc (EU x)) (w.heap.size + 1) x := by have h_ := Su.new ((w).alloc (EV a c)) x; simp only [World.size_alloc] at h_; exact h_
  have F2 := F1.alloc F1.size (EU x)
  have ha_3 := ha_2.alloc EV0
  have hc_3 := hc_2.alloc EV0
  have hx_3 := hx_2.alloc EV0
  have bx_3 := bx_2.alloc EV0
  have by_3 := by_2.alloc EV0
  have br_3 : Sv ((((w).alloc (EV a c)).alloc (EU x)).alloc EV0) (w.heap.size + 2) Rv.zero Rv.zero := by have h_ := Sv.new (((w).alloc (EV a c)).alloc (EU x)) Rv.zero Rv.zero; simp only [World.size_alloc] at h_; exact h_
  have F3 := F2.alloc F2.size EV0
  go_enter Try.func21, Try.ntmps21
  have bx_u3 := bx_3.cell0
  have bx_v3 := bx_3.cell1
  have bx_w3 := bx_3.cell2
  have bx_x3 := bx_3.cell3
  have bx_y3 := bx_3.cell4
  have bx_z3 := bx_3.cell5
  have by_u3 := by_3.cell0
  have by_v3 := by_3.cell1
  have by_w3 := by_3.cell2
  have br_u3 : ((((w).alloc (EV a c)).alloc (EU x)).alloc EV0).cell? ⟨w.heap.size + 2, 0, none⟩ = some (.bool false) := br_3.cell0
  have br_v3 : ((((w).alloc (EV a c)).alloc (EU x)).alloc EV0).cell? ⟨w.heap.size + 2, 1, none⟩ = some (.slice none 0 0) := br_3.cell1
  have br_w3 : ((((w).alloc (EV a c)).alloc (EU x)).alloc EV0).cell? ⟨w.heap.size + 2, 2, none⟩ = some (.slice none 0 0) := br_3.cell2
  have br_x3 : ((((w).alloc (EV a c)).alloc (EU x)).alloc EV0).cell? ⟨w.heap.size + 2, 3, none⟩ = some (.bool false) := br_3.cell3
  have br_y3 : ((((w).alloc (EV a c)).alloc (EU x)).alloc EV0).cell? ⟨w.heap.size + 2, 4, none⟩ = some (.slice none 0 0) := br_3.cell4
  have br_z3 : ((((w).alloc (EV a c)).alloc (EU x)).alloc EV0).cell? ⟨w.heap.size + 2, 5, none⟩ = some (.slice none 0 0) := br_3.cell5
  go_wp2_with fail
  refine (psign_u _ z r _ HR.out hx_3 lx).mono ?_
  rintro e w4 ⟨rfl, b4⟩
  have ha_4 := ha_3.below b4
  have hc_4 := hc_3.below b4
  have hx_4 := hx_3.below b4
  have bx_4 := bx_3.below b4 bx_3.lt
  have by_4 := by_3.below b4 by_3.lt
  have br_4 := br_3.below b4 br_3.lt
  have F4 := below_then F3 (Nat.le_refl _) b4
  have bx_u4 := bx_4.cell0
  have bx_v4 := bx_4.cell1
  have bx_w4 := bx_4.cell2
  have bx_x4 := bx_4.cell3
  have bx_y4 := bx_4.cell4
  have bx_z4 := bx_4.cell5
  have by_u4 := by_4.cell0
  have by_v4 := by_4.cell1
  have by_w4 := by_4.cell2
  have br_u4 : (w4).cell? ⟨w.heap.size + 2, 0, none⟩ = some (.bool false) := br_4.cell0
  have br_v4 : (w4).cell? ⟨w.heap.size + 2, 1, none⟩ = some (.slice none 0 0) := br_4.cell1
  have br_w4 : (w4).cell? ⟨w.heap.size + 2, 2, none⟩ = some (.slice none 0 0) := br_4.cell2
  have br_x4 : (w4).cell? ⟨w.heap.size + 2, 3, none⟩ = some (.bool false) := br_4.cell3
  have br_y4 : (w4).cell? ⟨w.heap.size + 2, 4, none⟩ = some (.slice none 0 0) := br_4.cell4
  have br_z4 : (w4).cell? ⟨w.heap.size + 2, 5, none⟩ = some (.slice none 0 0) := br_4.cell5
  have bx_f04 := bx_4.frozen 0
  have bx_f14 := bx_4.frozen 1
  have bx_f24 := bx_4.frozen 2
  have bx_f34 := bx_4.frozen 3
  have bx_f44 := bx_4.frozen 4
  have bx_f54 := bx_4.frozen 5
  have ha_5 := ha_4.storV bx_4 (.bool c.s) (.slice c.A c.n c.c) (.slice c.B c.m c.d) (.bool a.s) (.slice a.A a.n a.c) (.slice a.B a.m a.d)
  have hc_5 := hc_4.storV bx_4 (.bool c.s) (.slice c.A c.n c.c) (.slice c.B c.m c.d) (.bool a.s) (.slice a.A a.n a.c) (.slice a.B a.m a.d)
  have hx_5 := hx_4.storV bx_4 (.bool c.s) (.slice c.A c.n c.c) (.slice c.B c.m c.d) (.bool a.s) (.slice a.A a.n a.c) (.slice a.B a.m a.d)
  have by_5 := by_4.past6 (g' := w.heap.size) (u0 := .bool c.s) (u1 := .slice c.A c.n c.c) (u2 := .slice c.B c.m c.d) (u3 := .bool a.s) (u4 := .slice a.A a.n a.c) (u5 := .slice a.B a.m a.d) (by omega)
  have br_5 := br_4.past6 (g' := w.heap.size) (u0 := .bool c.s) (u1 := .slice c.A c.n c.c) (u2 := .slice c.B c.m c.d) (u3 := .bool a.s) (u4 := .slice a.A a.n a.c) (u5 := .slice a.B a.m a.d) (by omega)
  have bx_5 := bx_4.stor c a
  have F5 := below_six (u0 := .bool c.s) (u1 := .slice c.A c.n c.c) (u2 := .slice c.B c.m c.d) (u3 := .bool a.s) (u4 := .slice a.A a.n a.c) (u5 := .slice a.B a.m a.d) F4 (show w.heap.size ≤ w.heap.size by omega)
  have bx_u5 := bx_5.cell0
  have bx_v5 := bx_5.cell1
  have bx_w5 := bx_5.cell2
  have bx_x5 := bx_5.cell3
  have bx_y5 := bx_5.cell4
  have bx_z5 := bx_5.cell5
  have by_u5 := by_5.cell0
  have by_v5 := by_5.cell1
  have by_w5 := by_5.cell2
  have br_u5 : (((((((((((((w4).setCell ⟨w.heap.size, 0, none⟩ (.bool c.s))).setCell ⟨w.heap.size, 1, none⟩ (.slice c.A c.n c.c))).setCell ⟨w.heap.size, 2, none⟩ (.slice c.B c.m c.d))).setCell ⟨w.heap.size, 3, none⟩ (.bool a.s))).setCell ⟨w.heap.size, 4, none⟩ (.slice a.A a.n a.c))).setCell ⟨w.heap.size, 5, none⟩ (.slice a.B a.m a.d))).cell? ⟨w.heap.size + 2, 0, none⟩ = some (.bool false) := br_5.cell0
  have br_v5 : (((((((((((((w4).setCell ⟨w.heap.size, 0, none⟩ (.bool c.s))).setCell ⟨w.heap.size, 1, none⟩ (.slice c.A c.n c.c))).setCell ⟨w.heap.size, 2, none⟩ (.slice c.B c.m c.d))).setCell ⟨w.heap.size, 3, none⟩ (.bool a.s))).setCell ⟨w.heap.size, 4, none⟩ (.slice a.A a.n a.c))).setCell ⟨w.heap.size, 5, none⟩ (.slice a.B a.m a.d))).cell? ⟨w.heap.size + 2, 1, none⟩ = some (.slice none 0 0) := br_5.cell1
  have br_w5 : (((((((((((((w4).setCell ⟨w.heap.size, 0, none⟩ (.bool c.s))).setCell ⟨w.heap.size, 1, none⟩ (.slice c.A c.n c.c))).setCell ⟨w.heap.size, 2, none⟩ (.slice c.B c.m c.d))).setCell ⟨w.heap.size, 3, none⟩ (.bool a.s))).setCell ⟨w.heap.size, 4, none⟩ (.slice a.A a.n a.c))).setCell ⟨w.heap.size, 5, none⟩ (.slice a.B a.m a.d))).cell? ⟨w.heap.size + 2, 2, none⟩ = some (.slice none 0 0) := br_5.cell2
  have br_x5 : (((((((((((((w4).setCell ⟨w.heap.size, 0, none⟩ (.bool c.s))).setCell ⟨w.heap.size, 1, none⟩ (.slice c.A c.n c.c))).setCell ⟨w.heap.size, 2, none⟩ (.slice c.B c.m c.d))).setCell ⟨w.heap.size, 3, none⟩ (.bool a.s))).setCell ⟨w.heap.size, 4, none⟩ (.slice a.A a.n a.c))).setCell ⟨w.heap.size, 5, none⟩ (.slice a.B a.m a.d))).cell? ⟨w.heap.size + 2, 3, none⟩ = some (.bool false) := br_5.cell3
  have br_y5 : (((((((((((((w4).setCell ⟨w.heap.size, 0, none⟩ (.bool c.s))).setCell ⟨w.heap.size, 1, none⟩ (.slice c.A c.n c.c))).setCell ⟨w.heap.size, 2, none⟩ (.slice c.B c.m c.d))).setCell ⟨w.heap.size, 3, none⟩ (.bool a.s))).setCell ⟨w.heap.size, 4, none⟩ (.slice a.A a.n a.c))).setCell ⟨w.heap.size, 5, none⟩ (.slice a.B a.m a.d))).cell? ⟨w.heap.size + 2, 4, none⟩ = some (.slice none 0 0) := br_5.cell4
  have br_z5 : (((((((((((((w4).setCell ⟨w.heap.size, 0, none⟩ (.bool c.s))).setCell ⟨w.heap.size, 1, none⟩ (.slice c.A c.n c.c))).setCell ⟨w.heap.size, 2, none⟩ (.slice c.B c.m c.d))).setCell ⟨w.heap.size, 3, none⟩ (.bool a.s))).setCell ⟨w.heap.size, 4, none⟩ (.slice a.A a.n a.c))).setCell ⟨w.heap.size, 5, none⟩ (.slice a.B a.m a.d))).cell? ⟨w.heap.size + 2, 5, none⟩ = some (.slice none 0 0) := br_5.cell5
  go_wp2_with fail
  have ha_6 := ha_5.drew
  have hc_6 := hc_5.drew
  have hx_6 := hx_5.drew
  have bx_6 := bx_5.drew
  have by_6 := by_5.drew
  have br_6 := br_5.drew
  have F6 := F5.drew
  go_region_held3 (fun w' => w'.cell? ⟨w.heap.size, 0, none⟩ = some (.bool c.s) ∧ w'.cell? ⟨w.heap.size, 1, none⟩ = some (.slice c.A c.n c.c) ∧ w'.cell? ⟨w.heap.size, 2, none⟩ = some (.slice c.B c.m c.d) ∧ w'.cell? ⟨w.heap.size, 3, none⟩ = some (.bool a.s) ∧ w'.cell? ⟨w.heap.size, 4, none⟩ = some (.slice a.A a.n a.c) ∧ w'.cell? ⟨w.heap.size, 5, none⟩ = some (.slice a.B a.m a.d) ∧ w'.cell? ⟨w.heap.size + 1, 0, none⟩ = some (.bool x.s) ∧ w'.cell? ⟨w.heap.size + 1, 1, none⟩ = some (.slice x.A x.n x.c) ∧ w'.cell? ⟨w.heap.size + 1, 2, none⟩ = some (.slice x.B x.m x.d))
    (first
      | with_reducible exact ⟨bx_p.cell0, bx_p.cell1, bx_p.cell2, bx_p.cell3, bx_p.cell4, bx_p.cell5, by_p.cell0, by_p.cell1, by_p.cell2⟩
      | with_reducible exact ⟨bx_8.cell0, bx_8.cell1, bx_8.cell2, bx_8.cell3, bx_8.cell4, bx_8.cell5, by_8.cell0, by_8.cell1, by_8.cell2⟩
      | with_reducible exact ⟨bx_7.cell0, bx_7.cell1, bx_7.cell2, bx_7.cell3, bx_7.cell4, bx_7.cell5, by_7.cell0, by_7.cell1, by_7.cell2⟩
      | with_reducible exact ⟨bx_6.cell0, bx_6.cell1, bx_6.cell2, bx_6.cell3, bx_6.cell4, bx_6.cell5, by_6.cell0, by_6.cell1, by_6.cell2⟩
      | fail)
    (first
      | (go_at_call 51; (with_reducible refine (pmul_u _ _ q z (q * z) _ rfl hc_6 hx_6 lc lx).mono ?_); rintro e w7 ⟨u7, rfl, z2, b7⟩; have ha_7 := ha_6.below b7; have hc_7 := hc_6.below b7; have hx_7 := hx_6.below b7; have bx_7 := bx_6.below b7 bx_6.lt; have by_7 := by_6.below b7 by_6.lt; have br_7 := br_6.below b7 br_6.lt; have F7 := below_then F6 (Nat.le_refl _) b7)
      | (go_at_call 51; (with_reducible refine (pmul_u _ _ p z (p * z) _ rfl ha_7 hx_7 la lx).mono ?_); rintro e w8 ⟨u8, rfl, z1, b8⟩; have ha_8 := ha_7.below b8; have hc_8 := hc_7.below b8; have hx_8 := hx_7.below b8; have z2_8 := z2.below b8; have bx_8 := bx_7.below b8 bx_7.lt; have by_8 := by_7.below b8 by_7.lt; have br_8 := br_7.below b8 br_7.lt; have F8 := below_then F7 (Nat.le_refl _) b8; have br_g0 := br_8.cell0; have br_h0 := br_8.frozen 0; have br_g1 := br_8.cell1; have br_h1 := br_8.frozen 1; have br_g2 := br_8.cell2; have br_h2 := br_8.frozen 2; have br_g3 := br_8.cell3; have br_h3 := br_8.frozen 3; have br_g4 := br_8.cell4; have br_h4 := br_8.frozen 4; have br_g5 := br_8.cell5; have br_h5 := br_8.frozen 5; have bx_p := bx_8.past6 (g' := w.heap.size + 2) (u0 := .bool u7.s) (u1 := .slice u7.A u7.n u7.c) (u2 := .slice u7.B u7.m u7.d) (u3 := .bool u8.s) (u4 := .slice u8.A u8.n u8.c) (u5 := .slice u8.B u8.m u8.d) (by omega); have by_p := by_8.past6 (g' := w.heap.size + 2) (u0 := .bool u7.s) (u1 := .slice u7.A u7.n u7.c) (u2 := .slice u7.B u7.m u7.d) (u3 := .bool u8.s) (u4 := .slice u8.A u8.n u8.c) (u5 := .slice u8.B u8.m u8.d) (by omega))
      | fail)
  go_wp2_with fail
  refine bodyPost_ret (v := .agg #[.bool u7.s, .slice u7.A u7.n u7.c, .slice u7.B u7.m u7.d, .bool u8.s, .slice u8.A u8.n u8.c, .slice u8.B u8.m u8.d]) (by simp [results, Try.results21, go_sem, (Sv.stor br_8 u7 u8).cell0, (Sv.stor br_8 u7 u8).cell1, (Sv.stor br_8 u7 u8).cell2, (Sv.stor br_8 u7 u8).cell3, (Sv.stor br_8 u7 u8).cell4, (Sv.stor br_8 u7 u8).cell5]) rfl (gv_end F8 (by omega) br_8 z2_8 z1)
theorem pscale_iv (a c x : Rv) (p q z : Rat) (w : World) (hpq : p ≤ q) (ha : Iu w a p) (hc : Iu w c q) (hx : Iu w x z) (la : Lu 4000 a) (lc : Lu 4000 c) (lx : Lu 4000 x) : Calls Try.prog 21 #[.agg #[.bool a.s, .slice a.A a.n a.c, .slice a.B a.m a.d, .bool c.s, .slice c.A c.n c.c, .slice c.B c.m c.d], .agg #[.bool x.s, .slice x.A x.n x.c, .slice x.B x.m x.d]] w (GV w (min (p * z) (q * z)) (max (p * z) (q * z))) := by
  rcases Bool.eq_false_or_eq_true (decide (z < 0)) with hz | hz
  · rw [(scl_neg hpq (of_decide_eq_true hz)).1, (scl_neg hpq (of_decide_eq_true hz)).2]
    exact pscale_neg a c x p q z w hz ha hc hx la lc lx
  · have h0 : 0 ≤ z := Rat.not_lt.1 (of_decide_eq_false hz)
    rw [(scl_pos hpq h0).1, (scl_pos hpq h0).2]
    exact pscale_pos a c x p q z w hz ha hc hx la lc lx
end Go.Proofs.Ytnddhohjfjlaiaa
