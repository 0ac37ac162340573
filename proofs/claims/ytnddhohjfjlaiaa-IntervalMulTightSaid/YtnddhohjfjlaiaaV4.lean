/-
  A point of an interval.
-/
import Derived.Test.YtnddhohjfjlaiaaV3
namespace Go.Proofs.Ytnddhohjfjlaiaa
open Go.RowKit
set_option linter.unusedVariables false
set_option linter.unusedSimpArgs false

theorem Cu.storQ {w : World} {a : Rv} {q : Rat} (h : Cu w a q) {g : Nat} {s0 : Bool} {A0 B0 : Option Addr} {l0 d0 l1 d1 : Nat} (hs : Sq w g (.bool s0) (.slice A0 l0 d0) (.slice B0 l1 d1)) (u0 u1 u2 : Value) : Cu (((w.setCell ⟨g, 0, none⟩ u0).setCell ⟨g, 1, none⟩ u1).setCell ⟨g, 2, none⟩ u2) a q := ⟨h.1.storQ hs _ _ _, h.2.1.storQ hs _ _ _, h.2.2⟩
theorem Iu.storQ {w : World} {a : Rv} {q : Rat} (h : Iu w a q) {g : Nat} {s0 : Bool} {A0 B0 : Option Addr} {l0 d0 l1 d1 : Nat} (hs : Sq w g (.bool s0) (.slice A0 l0 d0) (.slice B0 l1 d1)) (u0 u1 u2 : Value) : Iu (((w.setCell ⟨g, 0, none⟩ u0).setCell ⟨g, 1, none⟩ u1).setCell ⟨g, 2, none⟩ u2) a q := by
  obtain ⟨xs, ys, h1, h2, h3⟩ := h
  exact ⟨xs, ys, h1.storQ hs _ _ _, h2.storQ hs _ _ _, h3⟩
theorem Sq_at {w : World} {g g' : Nat} {v0 v1 v2 : Value} (h : Sq w g v0 v1 v2) (e : g = g') : Sq w g' v0 v1 v2 := e ▸ h
theorem frac_qs (o : Int) (ho : 0 ≤ o ∧ o < 256) : Qs 1 ((o : Rat) / ((255 : Int) : Rat)) := by
  have h := mk_size o 255 (by decide)
  rw [Rat.mkRat_eq_div] at h
  have e : (((255 : Nat) : Nat) : Rat) = (((255 : Int)) : Rat) := rfl
  rw [e] at h
  have h1 : pw 1 = 4294967296 := rfl
  unfold Qs
  omega
theorem frac_u (x y : Int) (p : Rat) (w : World) (hp : (x : Rat) / (y : Rat) = p) (h0 : y ≠ 0) (hx : -9223372036854775808 ≤ x ∧ x ≤ 9223372036854775807) (hy : -9223372036854775808 ≤ y ∧ y ≤ 9223372036854775807) : Calls Try.prog 53 #[.int .i64 x, .int .i64 y] w (GUE w p 0) :=
  (rfrac_q x y p w hp h0 hx.1 hx.2 hy.1 hy.2).mono fun _ _ => gue_of
theorem at_u (u v : Rv) (p q z : Rat) (o : Int) (w : World) (hz : p + ((o : Rat) / ((255 : Int) : Rat)) * (q - p) = z) (ho : 0 ≤ o ∧ o < 256) (hu : Cu w u p) (hv : Cu w v q) (sp : Qs 9 p) (sq : Qs 9 q) : Calls Try.prog 25 #[.agg #[.bool u.s, .slice u.A u.n u.c, .slice u.B u.m u.d, .bool v.s, .slice v.A v.n v.c, .slice v.B v.m v.d], .int .u8 o] w (GU w z) := by
  have ho1 := ho.1
  have ho2 := ho.2
  obtain ⟨f, hf⟩ : ∃ f, (o : Rat) / ((255 : Int) : Rat) = f := ⟨_, rfl⟩
  have sf : Qs 1 f := by rw [← hf]; exact frac_qs o ho
  rw [hf] at hz
  have sd : Qs 19 (q - p) := size_sub sq sp
  have sm : Qs 20 (f * (q - p)) := (size_mul sf sd)
  have lu : Lu 4000 u := (hu.len sp).mono (by decide)
  have lv : Lu 4000 v := (hv.len sq).mono (by decide)
  have w2 : IntKind.i64.wrap o = o := by (first | go_num | (simp [IntKind.wrap, IntKind.bits, IntKind.signed]; omega))
  have HF := hide hf
  have HZ := hide hz
  have HO := hide (show (255 : Int) ≠ 0 ∧ (-9223372036854775808 ≤ o ∧ o ≤ 9223372036854775807) ∧ (-9223372036854775808 ≤ (255 : Int) ∧ (255 : Int) ≤ 9223372036854775807) by omega)
  have k1 : 1 ≤ 4000 := by decide
  have k19 : 19 ≤ 4000 := by decide
  have k20 : 20 ≤ 4000 := by decide
  clear hf hz ho
  have hu_1 := hu.alloc (EV u v)
  have hv_1 := hv.alloc (EV u v)
  have bx_1 : Sv ((w).alloc (EV u v)) (w.heap.size) u v := by have h_ := Sv.new (w) u v; exact h_
  have F1 := (Below.refl w.heap.size w).alloc (Nat.le_refl _) (EV u v)
  have hu_2 := hu_1.alloc EQ0
  have hv_2 := hv_1.alloc EQ0
  have bx_2 := bx_1.alloc EQ0
  have br_2 : Su (((w).alloc (EV u v)).alloc EQ0) (w.heap.size + 1) Rv.zero := by have h_ := Su.new ((w).alloc (EV u v)) Rv.zero; simp only [World.size_alloc] at h_; exact h_
  have F2 := F1.alloc F1.size EQ0
  go_enter Try.func25, Try.ntmps25
  have bx_u2 := bx_2.cell0
  have bx_v2 := bx_2.cell1
  have bx_w2 := bx_2.cell2
  have bx_x2 := bx_2.cell3
  have bx_y2 := bx_2.cell4
  have bx_z2 := bx_2.cell5
  have br_u2 : (((w).alloc (EV u v)).alloc EQ0).cell? ⟨w.heap.size + 1, 0, none⟩ = some (.bool false) := br_2.cell0
  have br_v2 : (((w).alloc (EV u v)).alloc EQ0).cell? ⟨w.heap.size + 1, 1, none⟩ = some (.slice none 0 0) := br_2.cell1
  have br_w2 : (((w).alloc (EV u v)).alloc EQ0).cell? ⟨w.heap.size + 1, 2, none⟩ = some (.slice none 0 0) := br_2.cell2
  go_wp2_with fail
  refine (frac_u o 255 f _ HF.out HO.out.1 HO.out.2.1 HO.out.2.2).mono ?_
  rintro e w3 ⟨u3, rfl, ff, b3⟩
  have hu_3 := hu_2.below b3
  have hv_3 := hv_2.below b3
  have bx_3 := bx_2.below b3 bx_2.lt
  have br_3 := br_2.below b3 br_2.lt
  have F3 := below_then F2 (Nat.le_refl _) b3
  have bx_u3 := bx_3.cell0
  have bx_v3 := bx_3.cell1
  have bx_w3 := bx_3.cell2
  have bx_x3 := bx_3.cell3
  have bx_y3 := bx_3.cell4
  have bx_z3 := bx_3.cell5
  have br_u3 : (w3).cell? ⟨w.heap.size + 1, 0, none⟩ = some (.bool false) := br_3.cell0
  have br_v3 : (w3).cell? ⟨w.heap.size + 1, 1, none⟩ = some (.slice none 0 0) := br_3.cell1
  have br_w3 : (w3).cell? ⟨w.heap.size + 1, 2, none⟩ = some (.slice none 0 0) := br_3.cell2
  have br_f03 := br_3.frozen 0
  have br_f13 := br_3.frozen 1
  have br_f23 := br_3.frozen 2
  have lt_bp_bx := bx_3.lt
  have lt_bp_br := br_3.lt
  have hu_4 := hu_3.alloc (EU u3)
  have hv_4 := hv_3.alloc (EU u3)
  have ff_4 := ff.alloc (EU u3)
  have bx_4 := bx_3.alloc (EU u3)
  have br_4 := br_3.alloc (EU u3)
  have bp_4 : Su ((w3).alloc (EU u3)) (w3.heap.size) u3 := by have h_ := Su.new (w3) u3; exact h_
  have F4 := F3.alloc F3.size (EU u3)
  have bx_u4 := bx_4.cell0
  have bx_v4 := bx_4.cell1
  have bx_w4 := bx_4.cell2
  have bx_x4 := bx_4.cell3
  have bx_y4 := bx_4.cell4
  have bx_z4 := bx_4.cell5
  have br_u4 : ((w3).alloc (EU u3)).cell? ⟨w.heap.size + 1, 0, none⟩ = some (.bool false) := br_4.cell0
  have br_v4 : ((w3).alloc (EU u3)).cell? ⟨w.heap.size + 1, 1, none⟩ = some (.slice none 0 0) := br_4.cell1
  have br_w4 : ((w3).alloc (EU u3)).cell? ⟨w.heap.size + 1, 2, none⟩ = some (.slice none 0 0) := br_4.cell2
  have bp_u4 := bp_4.cell0
  have bp_v4 := bp_4.cell1
  have bp_w4 := bp_4.cell2
  have lf := (ff_4.len sf).mono k1
  go_wp2_with fail
  have hu_5 := hu_4.drew
  have hv_5 := hv_4.drew
  have ff_5 := ff_4.drew
  have bx_5 := bx_4.drew
  have br_5 := br_4.drew
  have bp_5 := bp_4.drew
  have F5 := F4.drew
  go_region_held3 (fun w' => w'.cell? ⟨w.heap.size, 0, none⟩ = some (.bool u.s) ∧ w'.cell? ⟨w.heap.size, 1, none⟩ = some (.slice u.A u.n u.c) ∧ w'.cell? ⟨w.heap.size, 2, none⟩ = some (.slice u.B u.m u.d) ∧ w'.cell? ⟨w.heap.size, 3, none⟩ = some (.bool v.s) ∧ w'.cell? ⟨w.heap.size, 4, none⟩ = some (.slice v.A v.n v.c) ∧ w'.cell? ⟨w.heap.size, 5, none⟩ = some (.slice v.B v.m v.d) ∧ w'.cell? ⟨w3.heap.size, 0, none⟩ = some (.bool u3.s) ∧ w'.cell? ⟨w3.heap.size, 1, none⟩ = some (.slice u3.A u3.n u3.c) ∧ w'.cell? ⟨w3.heap.size, 2, none⟩ = some (.slice u3.B u3.m u3.d))
    (first
      | with_reducible exact ⟨bx_p.cell0, bx_p.cell1, bx_p.cell2, bx_p.cell3, bx_p.cell4, bx_p.cell5, bp_p.cell0, bp_p.cell1, bp_p.cell2⟩
      | with_reducible exact ⟨bx_8.cell0, bx_8.cell1, bx_8.cell2, bx_8.cell3, bx_8.cell4, bx_8.cell5, bp_8.cell0, bp_8.cell1, bp_8.cell2⟩
      | with_reducible exact ⟨bx_7.cell0, bx_7.cell1, bx_7.cell2, bx_7.cell3, bx_7.cell4, bx_7.cell5, bp_7.cell0, bp_7.cell1, bp_7.cell2⟩
      | with_reducible exact ⟨bx_6.cell0, bx_6.cell1, bx_6.cell2, bx_6.cell3, bx_6.cell4, bx_6.cell5, bp_6.cell0, bp_6.cell1, bp_6.cell2⟩
      | with_reducible exact ⟨bx_5.cell0, bx_5.cell1, bx_5.cell2, bx_5.cell3, bx_5.cell4, bx_5.cell5, bp_5.cell0, bp_5.cell1, bp_5.cell2⟩
      | fail)
    (first
      | (go_at_call 54; (with_reducible refine (sub_u _ _ q p (q - p) _ rfl hv_5.iu hu_5.iu lv lu).mono ?_); rintro e w6 ⟨u6, rfl, dd, b6⟩; have hu_6 := hu_5.below b6; have hv_6 := hv_5.below b6; have ff_6 := ff_5.below b6; have bx_6 := bx_5.below b6 bx_5.lt; have br_6 := br_5.below b6 br_5.lt; have bp_6 := bp_5.below b6 bp_5.lt; have F6 := below_then F5 (Nat.le_refl _) b6)
      | (go_at_call 28; (with_reducible refine (mul_u _ _ f (q - p) (f * (q - p)) _ rfl ff_6.iu dd.iu lf ((dd.len sd).mono k19)).mono ?_); rintro e w7 ⟨u7, rfl, mm, b7⟩; have hu_7 := hu_6.below b7; have hv_7 := hv_6.below b7; have ff_7 := ff_6.below b7; have dd_7 := dd.below b7; have bx_7 := bx_6.below b7 bx_6.lt; have br_7 := br_6.below b7 br_6.lt; have bp_7 := bp_6.below b7 bp_6.lt; have F7 := below_then F6 (Nat.le_refl _) b7)
      | (go_at_call 26; (with_reducible refine (add_u _ _ p (f * (q - p)) z _ HZ.out hu_7.iu mm.iu lu ((mm.len sm).mono k20)).mono ?_); rintro e w8 ⟨u8, rfl, zz, b8⟩; have hu_8 := hu_7.below b8; have hv_8 := hv_7.below b8; have ff_8 := ff_7.below b8; have dd_8 := dd_7.below b8; have mm_8 := mm.below b8; have bx_8 := bx_7.below b8 bx_7.lt; have br_8 := br_7.below b8 br_7.lt; have bp_8 := bp_7.below b8 bp_7.lt; have F8 := below_then F7 (Nat.le_refl _) b8; have br_g0 := br_8.cell0; have br_h0 := br_8.frozen 0; have br_g1 := br_8.cell1; have br_h1 := br_8.frozen 1; have br_g2 := br_8.cell2; have br_h2 := br_8.frozen 2; have bx_p := bx_8.past3 (g' := w.heap.size + 1) (u0 := .bool u8.s) (u1 := .slice u8.A u8.n u8.c) (u2 := .slice u8.B u8.m u8.d) (by omega); have bp_p := bp_8.past3 (g' := w.heap.size + 1) (u0 := .bool u8.s) (u1 := .slice u8.A u8.n u8.c) (u2 := .slice u8.B u8.m u8.d) (by omega))
      | fail)
  go_wp2_with fail
  refine bodyPost_ret (v := .agg #[.bool u8.s, .slice u8.A u8.n u8.c, .slice u8.B u8.m u8.d]) (by simp [results, Try.results25, go_sem, (Su.stor br_8 u8).cell0, (Su.stor br_8 u8).cell1, (Su.stor br_8 u8).cell2]) rfl (gu_end F8 (by omega) br_8 zz)
end Go.Proofs.Ytnddhohjfjlaiaa
