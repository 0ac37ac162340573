/-
  The program's interval: Add, Join, Neg, Relu, Make.
-/
import Derived.Test.YtnddhohjfjlaiaaGreatDoorX2
import Derived.Test.YtnddhohjfjlaiaaGreatDoorVB
namespace Go.Proofs.YtnddhohjfjlaiaaGreatDoor
open Go.RowKit
set_option linter.unusedVariables false
set_option linter.unusedSimpArgs false

theorem prelu_iv (a c : Rv) (p q : Rat) (w : World) (ha : Iu w a p) (hc : Iu w c q) (la : Lu 4000 a) (lc : Lu 4000 c) : Calls Tryz.prog 13 #[.agg #[.bool a.s, .slice a.A a.n a.c, .slice a.B a.m a.d, .bool c.s, .slice c.A c.n c.c, .slice c.B c.m c.d]] w (GV w (max p 0) (max q 0)) := by
  have ha_1 := ha.alloc (EV a c)
  have hc_1 := hc.alloc (EV a c)
  have ba_1 : Sv ((w).alloc (EV a c)) (w.heap.size) a c := by have h_ := Sv.new (w) a c; exact h_
  have F1 := (Below.refl w.heap.size w).alloc (Nat.le_refl _) (EV a c)
  have ha_2 := ha_1.alloc EV0
  have hc_2 := hc_1.alloc EV0
  have ba_2 := ba_1.alloc EV0
  have br_2 : Sv (((w).alloc (EV a c)).alloc EV0) (w.heap.size + 1) Rv.zero Rv.zero := by have h_ := Sv.new ((w).alloc (EV a c)) Rv.zero Rv.zero; simp only [World.size_alloc] at h_; exact h_
  have F2 := F1.alloc F1.size EV0
  go_enter Tryz.func13, Tryz.ntmps13
  have ba_u2 := ba_2.cell0
  have ba_v2 := ba_2.cell1
  have ba_w2 := ba_2.cell2
  have ba_x2 := ba_2.cell3
  have ba_y2 := ba_2.cell4
  have ba_z2 := ba_2.cell5
  have br_u2 : (((w).alloc (EV a c)).alloc EV0).cell? ⟨w.heap.size + 1, 0, none⟩ = some (.bool false) := br_2.cell0
  have br_v2 : (((w).alloc (EV a c)).alloc EV0).cell? ⟨w.heap.size + 1, 1, none⟩ = some (.slice none 0 0) := br_2.cell1
  have br_w2 : (((w).alloc (EV a c)).alloc EV0).cell? ⟨w.heap.size + 1, 2, none⟩ = some (.slice none 0 0) := br_2.cell2
  have br_x2 : (((w).alloc (EV a c)).alloc EV0).cell? ⟨w.heap.size + 1, 3, none⟩ = some (.bool false) := br_2.cell3
  have br_y2 : (((w).alloc (EV a c)).alloc EV0).cell? ⟨w.heap.size + 1, 4, none⟩ = some (.slice none 0 0) := br_2.cell4
  have br_z2 : (((w).alloc (EV a c)).alloc EV0).cell? ⟨w.heap.size + 1, 5, none⟩ = some (.slice none 0 0) := br_2.cell5
  go_wp2_with fail
  have ha_3 := ha_2.drew
  have hc_3 := hc_2.drew
  have ba_3 := ba_2.drew
  have br_3 := br_2.drew
  have F3 := F2.drew
  go_region_held3 (fun w' => w'.cell? ⟨w.heap.size, 0, none⟩ = some (.bool a.s) ∧ w'.cell? ⟨w.heap.size, 1, none⟩ = some (.slice a.A a.n a.c) ∧ w'.cell? ⟨w.heap.size, 2, none⟩ = some (.slice a.B a.m a.d) ∧ w'.cell? ⟨w.heap.size, 3, none⟩ = some (.bool c.s) ∧ w'.cell? ⟨w.heap.size, 4, none⟩ = some (.slice c.A c.n c.c) ∧ w'.cell? ⟨w.heap.size, 5, none⟩ = some (.slice c.B c.m c.d))
    (first
      | with_reducible exact ⟨ba_p.cell0, ba_p.cell1, ba_p.cell2, ba_p.cell3, ba_p.cell4, ba_p.cell5⟩
      | with_reducible exact ⟨ba_5.cell0, ba_5.cell1, ba_5.cell2, ba_5.cell3, ba_5.cell4, ba_5.cell5⟩
      | with_reducible exact ⟨ba_4.cell0, ba_4.cell1, ba_4.cell2, ba_4.cell3, ba_4.cell4, ba_4.cell5⟩
      | with_reducible exact ⟨ba_3.cell0, ba_3.cell1, ba_3.cell2, ba_3.cell3, ba_3.cell4, ba_3.cell5⟩
      | fail)
    (first
      | (go_at_call 24; (with_reducible refine (pmax_u _ Rv.zero p 0 (max p 0) _ rfl ha_3 (cu_zero _).iu la (lu_zero _)).mono ?_); rintro e w4 ⟨u4, rfl, z1, b4⟩; have ha_4 := ha_3.below b4; have hc_4 := hc_3.below b4; have ba_4 := ba_3.below b4 ba_3.lt; have br_4 := br_3.below b4 br_3.lt; have F4 := below_then F3 (Nat.le_refl _) b4)
      | (go_at_call 24; (with_reducible refine (pmax_u _ Rv.zero q 0 (max q 0) _ rfl hc_4 (cu_zero _).iu lc (lu_zero _)).mono ?_); rintro e w5 ⟨u5, rfl, z2, b5⟩; have ha_5 := ha_4.below b5; have hc_5 := hc_4.below b5; have z1_5 := z1.below b5; have ba_5 := ba_4.below b5 ba_4.lt; have br_5 := br_4.below b5 br_4.lt; have F5 := below_then F4 (Nat.le_refl _) b5; have br_g0 := br_5.cell0; have br_h0 := br_5.frozen 0; have br_g1 := br_5.cell1; have br_h1 := br_5.frozen 1; have br_g2 := br_5.cell2; have br_h2 := br_5.frozen 2; have br_g3 := br_5.cell3; have br_h3 := br_5.frozen 3; have br_g4 := br_5.cell4; have br_h4 := br_5.frozen 4; have br_g5 := br_5.cell5; have br_h5 := br_5.frozen 5; have ba_p := ba_5.past6 (g' := w.heap.size + 1) (u0 := .bool u4.s) (u1 := .slice u4.A u4.n u4.c) (u2 := .slice u4.B u4.m u4.d) (u3 := .bool u5.s) (u4 := .slice u5.A u5.n u5.c) (u5 := .slice u5.B u5.m u5.d) (by omega))
      | fail)
  go_wp2_with fail
  refine bodyPost_ret (v := .agg #[.bool u4.s, .slice u4.A u4.n u4.c, .slice u4.B u4.m u4.d, .bool u5.s, .slice u5.A u5.n u5.c, .slice u5.B u5.m u5.d]) (by simp [results, Tryz.results13, go_sem, (Sv.stor br_5 u4 u5).cell0, (Sv.stor br_5 u4 u5).cell1, (Sv.stor br_5 u4 u5).cell2, (Sv.stor br_5 u4 u5).cell3, (Sv.stor br_5 u4 u5).cell4, (Sv.stor br_5 u4 u5).cell5]) rfl (gv_end F5 (by omega) br_5 z1_5 z2)
end Go.Proofs.YtnddhohjfjlaiaaGreatDoor
