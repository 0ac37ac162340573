/-
  The program's interval: Mul.
-/
import Derived.Test.YtnddhohjfjlaiaaGreatDoorX5
import Derived.Test.YtnddhohjfjlaiaaGreatDoorVB
import Derived.Test.YtnddhohjfjlaiaaGreatDoorU7
namespace Go.Proofs.YtnddhohjfjlaiaaGreatDoor
open Go.RowKit
set_option linter.unusedVariables false
set_option linter.unusedSimpArgs false

def mnp (a b c d : Rat) : Nat → Rat
  | 0 => a
  | 1 => min a a
  | 2 => min (min a a) b
  | 3 => min (min (min a a) b) c
  | _ => min (min (min (min a a) b) c) d
def mxp (a b c d : Rat) : Nat → Rat
  | 0 => d
  | 1 => max d a
  | 2 => max (max d a) b
  | 3 => max (max (max d a) b) c
  | _ => max (max (max (max d a) b) c) d
theorem Iu.stor12 {w : World} {a : Rv} {q : Rat} {g : Nat} (h : Iu w a q) {s1 s2 s3 s4 : Bool} {A1 A2 A3 A4 B1 B2 B3 B4 : Option Addr} {n1 n2 n3 n4 c1 c2 c3 c4 m1 m2 m3 m4 d1 d2 d3 d4 : Nat} (hs : S12 w g (.bool s1) (.slice A1 n1 c1) (.slice B1 m1 d1) (.bool s2) (.slice A2 n2 c2) (.slice B2 m2 d2) (.bool s3) (.slice A3 n3 c3) (.slice B3 m3 d3) (.bool s4) (.slice A4 n4 c4) (.slice B4 m4 d4)) (u0 u1 u2 u3 u4 u5 u6 u7 u8 u9 u10 u11 : Value) : Iu ((((((((((((w.setCell ⟨g, 0, none⟩ u0).setCell ⟨g, 1, none⟩ u1).setCell ⟨g, 2, none⟩ u2).setCell ⟨g, 3, none⟩ u3).setCell ⟨g, 4, none⟩ u4).setCell ⟨g, 5, none⟩ u5).setCell ⟨g, 6, none⟩ u6).setCell ⟨g, 7, none⟩ u7).setCell ⟨g, 8, none⟩ u8).setCell ⟨g, 9, none⟩ u9).setCell ⟨g, 10, none⟩ u10).setCell ⟨g, 11, none⟩ u11) a q := by
  obtain ⟨xs, ys, h1, h2, h3⟩ := h
  exact ⟨xs, ys, h1.twelve (S12.away hs h1) _ _ _ _ _ _ _ _ _ _ _ _, h2.twelve (S12.away hs h2) _ _ _ _ _ _ _ _ _ _ _ _, h3⟩
theorem mnp4 (a b c d : Rat) : mnp a b c d 4 = min (min a c) (min b d) := by
  show min (min (min (min a a) b) c) d = _
  simp only [Rat.min_def]
  grind
theorem mxp4 (a b c d : Rat) : mxp a b c d 4 = max (max a c) (max b d) := by
  show max (max (max (max d a) b) c) d = _
  simp only [Rat.max_def]
  grind
theorem sz_lt (a b : Rat) : decide (sz (a - b).num < 0) = !decide (b ≤ a) := by
  rw [sz_lt0]
  by_cases h : a < b
  · rw [decide_eq_true (show a - b < 0 by grind), decide_eq_false (Rat.not_le.2 h)]
    rfl
  · rw [decide_eq_false (Rat.not_lt.2 (show 0 ≤ a - b by grind)), decide_eq_true (Rat.not_lt.1 h)]
    rfl
theorem mn_t {x P : Rat} (h : decide (sz (P - x).num < 0) = true) : min x P = P := by
  rw [sz_lt] at h
  simp only [Bool.not_eq_true', decide_eq_false_iff_not] at h
  rw [Rat.min_def]
  grind
theorem mn_f {x P : Rat} (h : decide (sz (P - x).num < 0) = false) : min x P = x := by
  rw [sz_lt] at h
  simp only [Bool.not_eq_false', decide_eq_true_eq] at h
  rw [Rat.min_def]
  grind
theorem mx_t {x P : Rat} (h : decide (0 < sz (P - x).num) = true) : max x P = P := by
  rw [sz_gt] at h
  simp only [Bool.not_eq_true', decide_eq_false_iff_not] at h
  rw [Rat.max_def]
  grind
theorem mx_f {x P : Rat} (h : decide (0 < sz (P - x).num) = false) : max x P = x := by
  rw [sz_gt] at h
  simp only [Bool.not_eq_false', decide_eq_true_eq] at h
  rw [Rat.max_def]
  grind
theorem Rd.thr {w : World} {A : Option Addr} {n c : Nat} {xs : List Nat} (h : Rd w A n c xs) {g : Nat} (ha : Away A n g) (i j k : Nat) (u0 u1 u2 : Value) : Rd (((w.setCell ⟨g, i, none⟩ u0).setCell ⟨g, j, none⟩ u1).setCell ⟨g, k, none⟩ u2) A n c xs := ((h.far ha _ _).far ha _ _).far ha _ _
theorem below_thr {B : Nat} {w w1 : World} {g : Nat} (h : Below B w w1) (hg : B ≤ g) (i j k : Nat) (u0 u1 u2 : Value) : Below B w (((w1.setCell ⟨g, i, none⟩ u0).setCell ⟨g, j, none⟩ u1).setCell ⟨g, k, none⟩ u2) := ((h.setCell hg _).setCell hg _).setCell hg _
theorem Cu.lo3 {w : World} {a x y : Rv} {q : Rat} {g : Nat} (h : Cu w a q) (hs : Sv w g x y) (u0 u1 u2 : Value) : Cu (((w.setCell ⟨g, 0, none⟩ u0).setCell ⟨g, 1, none⟩ u1).setCell ⟨g, 2, none⟩ u2) a q := ⟨h.1.thr (S6.away6 hs h.1) 0 1 2 _ _ _, h.2.1.thr (S6.away6 hs h.2.1) 0 1 2 _ _ _, h.2.2⟩
theorem Sv.lo3 {w : World} {x y : Rv} {g : Nat} (hs : Sv w g x y) (z : Rv) : Sv (((w.setCell ⟨g, 0, none⟩ (.bool z.s)).setCell ⟨g, 1, none⟩ (.slice z.A z.n z.c)).setCell ⟨g, 2, none⟩ (.slice z.B z.m z.d)) g z y := ((S6.set0 hs _).set1 _).set2 _
theorem Sv.lo9 {w : World} {x y : Rv} {g g' : Nat} (hs : Sv w g' x y) (hg : g' ≠ g) (u0 u1 u2 : Value) : Sv (((w.setCell ⟨g, 0, none⟩ u0).setCell ⟨g, 1, none⟩ u1).setCell ⟨g, 2, none⟩ u2) g' x y := ((S6.far hs hg u0).far hg u1).far hg u2
theorem Cu.hi3 {w : World} {a x y : Rv} {q : Rat} {g : Nat} (h : Cu w a q) (hs : Sv w g x y) (u0 u1 u2 : Value) : Cu (((w.setCell ⟨g, 3, none⟩ u0).setCell ⟨g, 4, none⟩ u1).setCell ⟨g, 5, none⟩ u2) a q := ⟨h.1.thr (S6.away6 hs h.1) 3 4 5 _ _ _, h.2.1.thr (S6.away6 hs h.2.1) 3 4 5 _ _ _, h.2.2⟩
theorem Sv.hi3 {w : World} {x y : Rv} {g : Nat} (hs : Sv w g x y) (z : Rv) : Sv (((w.setCell ⟨g, 3, none⟩ (.bool z.s)).setCell ⟨g, 4, none⟩ (.slice z.A z.n z.c)).setCell ⟨g, 5, none⟩ (.slice z.B z.m z.d)) g x z := ((S6.set3 hs _).set4 _).set5 _
theorem Sv.hi9 {w : World} {x y : Rv} {g g' : Nat} (hs : Sv w g' x y) (hg : g' ≠ g) (u0 u1 u2 : Value) : Sv (((w.setCell ⟨g, 3, none⟩ u0).setCell ⟨g, 4, none⟩ u1).setCell ⟨g, 5, none⟩ u2) g' x y := ((S6.far hs hg u0).far hg u1).far hg u2
set_option maxRecDepth 50000 in
set_option maxHeartbeats 8000000 in
theorem pmul_iv (a c x y : Rv) (p q p' q' : Rat) (w : World) (ha : Iu w a p) (hc : Iu w c q) (hx : Iu w x p') (hy : Iu w y q') (la : Lu 4000 a) (lc : Lu 4000 c) (lx : Lu 4000 x) (ly : Lu 4000 y) (sp : Qs 100 p) (sq : Qs 100 q) (sp' : Qs 100 p') (sq' : Qs 100 q') : Calls Tryz.prog 12 #[.agg #[.bool a.s, .slice a.A a.n a.c, .slice a.B a.m a.d, .bool c.s, .slice c.A c.n c.c, .slice c.B c.m c.d], .agg #[.bool x.s, .slice x.A x.n x.c, .slice x.B x.m x.d, .bool y.s, .slice y.A y.n y.c, .slice y.B y.m y.d]] w (GV w (min (min (p * p') (q * p')) (min (p * q') (q * q'))) (max (max (p * p') (q * p')) (max (p * q') (q * q')))) := by
  obtain ⟨P0, h0⟩ : ∃ z, p * p' = z := ⟨_, rfl⟩
  obtain ⟨P1, h1⟩ : ∃ z, p * q' = z := ⟨_, rfl⟩
  obtain ⟨P2, h2⟩ : ∃ z, q * p' = z := ⟨_, rfl⟩
  obtain ⟨P3, h3⟩ : ∃ z, q * q' = z := ⟨_, rfl⟩
  have s0 : Qs 200 P0 := by rw [← h0]; have h := size_mul sp sp'; exact h
  have s1 : Qs 200 P1 := by rw [← h1]; have h := size_mul sp sq'; exact h
  have s2 : Qs 200 P2 := by rw [← h2]; have h := size_mul sq sp'; exact h
  have s3 : Qs 200 P3 := by rw [← h3]; have h := size_mul sq sq'; exact h
  rw [h0, h1, h2, h3, ← mnp4, ← mxp4]
  have H0 := hide h0
  have H1 := hide h1
  have H2 := hide h2
  have H3 := hide h3
  have k2 : 200 ≤ 4000 := by decide
  clear h0 h1 h2 h3 sp sq sp' sq'
  have ha_1 := ha.alloc (EV a c)
  have hc_1 := hc.alloc (EV a c)
  have hx_1 := hx.alloc (EV a c)
  have hy_1 := hy.alloc (EV a c)
  have ba_1 : Sv ((w).alloc (EV a c)) (w.heap.size) a c := by have h_ := Sv.new (w) a c; exact h_
  have F1 := (Below.refl w.heap.size w).alloc (Nat.le_refl _) (EV a c)
  have ha_2 := ha_1.alloc (EV x y)
  have hc_2 := hc_1.alloc (EV x y)
  have hx_2 := hx_1.alloc (EV x y)
  have hy_2 := hy_1.alloc (EV x y)
  have ba_2 := ba_1.alloc (EV x y)
  have bb_2 : Sv (((w).alloc (EV a c)).alloc (EV x y)) (w.heap.size + 1) x y := by have h_ := Sv.new ((w).alloc (EV a c)) x y; simp only [World.size_alloc] at h_; exact h_
  have F2 := F1.alloc F1.size (EV x y)
  have ha_3 := ha_2.alloc EV0
  have hc_3 := hc_2.alloc EV0
  have hx_3 := hx_2.alloc EV0
  have hy_3 := hy_2.alloc EV0
  have ba_3 := ba_2.alloc EV0
  have bb_3 := bb_2.alloc EV0
  have br_3 : Sv ((((w).alloc (EV a c)).alloc (EV x y)).alloc EV0) (w.heap.size + 2) Rv.zero Rv.zero := by have h_ := Sv.new (((w).alloc (EV a c)).alloc (EV x y)) Rv.zero Rv.zero; simp only [World.size_alloc] at h_; exact h_
  have F3 := F2.alloc F2.size EV0
  go_enter Tryz.func12, Tryz.ntmps12
  have ba_u3 := ba_3.cell0
  have ba_v3 := ba_3.cell1
  have ba_w3 := ba_3.cell2
  have ba_x3 := ba_3.cell3
  have ba_y3 := ba_3.cell4
  have ba_z3 := ba_3.cell5
  have bb_u3 := bb_3.cell0
  have bb_v3 := bb_3.cell1
  have bb_w3 := bb_3.cell2
  have bb_x3 := bb_3.cell3
  have bb_y3 := bb_3.cell4
  have bb_z3 := bb_3.cell5
  have br_u3 : ((((w).alloc (EV a c)).alloc (EV x y)).alloc EV0).cell? ⟨w.heap.size + 2, 0, none⟩ = some (.bool false) := br_3.cell0
  have br_v3 : ((((w).alloc (EV a c)).alloc (EV x y)).alloc EV0).cell? ⟨w.heap.size + 2, 1, none⟩ = some (.slice none 0 0) := br_3.cell1
  have br_w3 : ((((w).alloc (EV a c)).alloc (EV x y)).alloc EV0).cell? ⟨w.heap.size + 2, 2, none⟩ = some (.slice none 0 0) := br_3.cell2
  have br_x3 : ((((w).alloc (EV a c)).alloc (EV x y)).alloc EV0).cell? ⟨w.heap.size + 2, 3, none⟩ = some (.bool false) := br_3.cell3
  have br_y3 : ((((w).alloc (EV a c)).alloc (EV x y)).alloc EV0).cell? ⟨w.heap.size + 2, 4, none⟩ = some (.slice none 0 0) := br_3.cell4
  have br_z3 : ((((w).alloc (EV a c)).alloc (EV x y)).alloc EV0).cell? ⟨w.heap.size + 2, 5, none⟩ = some (.slice none 0 0) := br_3.cell5
  go_upto_region 1 with fail
  go_cut [5] (fun sx60 wy => ∃ (wx60 : World) (g : Nat) (u62 : Rv) (u63 : Rv) (u64 : Rv) (u65 : Rv), wx60 = wy ∧ sx60 = .pointer (some ⟨g, 0, none⟩) ∧ S12 wx60 g (.bool u62.s) (.slice u62.A u62.n u62.c) (.slice u62.B u62.m u62.d) (.bool u63.s) (.slice u63.A u63.n u63.c) (.slice u63.B u63.m u63.d) (.bool u64.s) (.slice u64.A u64.n u64.c) (.slice u64.B u64.m u64.d) (.bool u65.s) (.slice u65.A u65.n u65.c) (.slice u65.B u65.m u65.d) ∧ w.heap.size ≤ g ∧ w.heap.size ≠ g ∧ w.heap.size + 1 ≠ g ∧ w.heap.size + 2 ≠ g ∧ Sv wx60 (w.heap.size) a c ∧ Sv wx60 (w.heap.size + 1) x y ∧ Sv wx60 (w.heap.size + 2) Rv.zero Rv.zero ∧ Iu wx60 a p ∧ Iu wx60 c q ∧ Iu wx60 x p' ∧ Iu wx60 y q' ∧ Cu wx60 u62 P0 ∧ Cu wx60 u63 P1 ∧ Cu wx60 u64 P2 ∧ Cu wx60 u65 P3 ∧ Below w.heap.size w wx60)
  case first =>
    have le1_ : w.heap.size ≠ w.heap.size + 1 := by omega
    have lf1_ := Ne.symm le1_
    have le2_ : w.heap.size ≠ w.heap.size + 1 + 1 := by omega
    have lf2_ := Ne.symm le2_
    have le3_ : w.heap.size ≠ w.heap.size + 1 + 1 + 1 := by omega
    have lf3_ := Ne.symm le3_
    have le4_ : w.heap.size ≠ w.heap.size + 1 + 1 + 1 + 1 := by omega
    have lf4_ := Ne.symm le4_
    have ha_61 := ha_3.drew
    have hc_61 := hc_3.drew
    have hx_61 := hx_3.drew
    have hy_61 := hy_3.drew
    have ba_61 := ba_3.drew
    have bb_61 := bb_3.drew
    have br_61 := br_3.drew
    have F61 := F3.drew
    have ha_z0 := (ha_3.alloc EA0).drew
    have hc_z0 := (hc_3.alloc EA0).drew
    have hx_z0 := (hx_3.alloc EA0).drew
    have hy_z0 := (hy_3.alloc EA0).drew
    have ba_z0 := (ba_3.alloc EA0).drew
    have bb_z0 := (bb_3.alloc EA0).drew
    have br_z0 := (br_3.alloc EA0).drew
    have lz_ba : w.heap.size ≠ w.heap.size + 3 := by omega
    have lz_bb : w.heap.size + 1 ≠ w.heap.size + 3 := by omega
    have lz_br : w.heap.size + 2 ≠ w.heap.size + 3 := by omega
    have gl : w.heap.size ≤ w.heap.size + 3 := by omega
    have F_z0 := (F3.alloc F3.size EA0).drew
    have zb_0 : S12 (((((w).alloc (EV a c)).alloc (EV x y)).alloc EV0).alloc EA0).drew (w.heap.size + 3) (.bool false) (.slice none 0 0) (.slice none 0 0) (.bool false) (.slice none 0 0) (.slice none 0 0) (.bool false) (.slice none 0 0) (.slice none 0 0) (.bool false) (.slice none 0 0) (.slice none 0 0) := by have h_ := S12.new ((((w).alloc (EV a c)).alloc (EV x y)).alloc EV0) (.bool false) (.slice none 0 0) (.slice none 0 0) (.bool false) (.slice none 0 0) (.slice none 0 0) (.bool false) (.slice none 0 0) (.slice none 0 0) (.bool false) (.slice none 0 0) (.slice none 0 0); simp only [World.size_alloc] at h_; exact h_.drew
    go_region_held3 (fun w' => w'.cell? ⟨w.heap.size, 0, none⟩ = some (.bool a.s) ∧ w'.cell? ⟨w.heap.size, 1, none⟩ = some (.slice a.A a.n a.c) ∧ w'.cell? ⟨w.heap.size, 2, none⟩ = some (.slice a.B a.m a.d) ∧ w'.cell? ⟨w.heap.size, 3, none⟩ = some (.bool c.s) ∧ w'.cell? ⟨w.heap.size, 4, none⟩ = some (.slice c.A c.n c.c) ∧ w'.cell? ⟨w.heap.size, 5, none⟩ = some (.slice c.B c.m c.d) ∧ w'.cell? ⟨w.heap.size + 1, 0, none⟩ = some (.bool x.s) ∧ w'.cell? ⟨w.heap.size + 1, 1, none⟩ = some (.slice x.A x.n x.c) ∧ w'.cell? ⟨w.heap.size + 1, 2, none⟩ = some (.slice x.B x.m x.d) ∧ w'.cell? ⟨w.heap.size + 1, 3, none⟩ = some (.bool y.s) ∧ w'.cell? ⟨w.heap.size + 1, 4, none⟩ = some (.slice y.A y.n y.c) ∧ w'.cell? ⟨w.heap.size + 1, 5, none⟩ = some (.slice y.B y.m y.d))
      (first
        | with_reducible exact ⟨(ba_65.alloc (EA u62 u63 u64 u65)).cell0, (ba_65.alloc (EA u62 u63 u64 u65)).cell1, (ba_65.alloc (EA u62 u63 u64 u65)).cell2, (ba_65.alloc (EA u62 u63 u64 u65)).cell3, (ba_65.alloc (EA u62 u63 u64 u65)).cell4, (ba_65.alloc (EA u62 u63 u64 u65)).cell5, (bb_65.alloc (EA u62 u63 u64 u65)).cell0, (bb_65.alloc (EA u62 u63 u64 u65)).cell1, (bb_65.alloc (EA u62 u63 u64 u65)).cell2, (bb_65.alloc (EA u62 u63 u64 u65)).cell3, (bb_65.alloc (EA u62 u63 u64 u65)).cell4, (bb_65.alloc (EA u62 u63 u64 u65)).cell5⟩
        | with_reducible exact ⟨(ba_65.past12 (u0 := .bool u62.s) (u1 := .slice u62.A u62.n u62.c) (u2 := .slice u62.B u62.m u62.d) (u3 := .bool u63.s) (u4 := .slice u63.A u63.n u63.c) (u5 := .slice u63.B u63.m u63.d) (u6 := .bool u64.s) (u7 := .slice u64.A u64.n u64.c) (u8 := .slice u64.B u64.m u64.d) (u9 := .bool u65.s) (u10 := .slice u65.A u65.n u65.c) (u11 := .slice u65.B u65.m u65.d) lz_ba).cell0, (ba_65.past12 (u0 := .bool u62.s) (u1 := .slice u62.A u62.n u62.c) (u2 := .slice u62.B u62.m u62.d) (u3 := .bool u63.s) (u4 := .slice u63.A u63.n u63.c) (u5 := .slice u63.B u63.m u63.d) (u6 := .bool u64.s) (u7 := .slice u64.A u64.n u64.c) (u8 := .slice u64.B u64.m u64.d) (u9 := .bool u65.s) (u10 := .slice u65.A u65.n u65.c) (u11 := .slice u65.B u65.m u65.d) lz_ba).cell1, (ba_65.past12 (u0 := .bool u62.s) (u1 := .slice u62.A u62.n u62.c) (u2 := .slice u62.B u62.m u62.d) (u3 := .bool u63.s) (u4 := .slice u63.A u63.n u63.c) (u5 := .slice u63.B u63.m u63.d) (u6 := .bool u64.s) (u7 := .slice u64.A u64.n u64.c) (u8 := .slice u64.B u64.m u64.d) (u9 := .bool u65.s) (u10 := .slice u65.A u65.n u65.c) (u11 := .slice u65.B u65.m u65.d) lz_ba).cell2, (ba_65.past12 (u0 := .bool u62.s) (u1 := .slice u62.A u62.n u62.c) (u2 := .slice u62.B u62.m u62.d) (u3 := .bool u63.s) (u4 := .slice u63.A u63.n u63.c) (u5 := .slice u63.B u63.m u63.d) (u6 := .bool u64.s) (u7 := .slice u64.A u64.n u64.c) (u8 := .slice u64.B u64.m u64.d) (u9 := .bool u65.s) (u10 := .slice u65.A u65.n u65.c) (u11 := .slice u65.B u65.m u65.d) lz_ba).cell3, (ba_65.past12 (u0 := .bool u62.s) (u1 := .slice u62.A u62.n u62.c) (u2 := .slice u62.B u62.m u62.d) (u3 := .bool u63.s) (u4 := .slice u63.A u63.n u63.c) (u5 := .slice u63.B u63.m u63.d) (u6 := .bool u64.s) (u7 := .slice u64.A u64.n u64.c) (u8 := .slice u64.B u64.m u64.d) (u9 := .bool u65.s) (u10 := .slice u65.A u65.n u65.c) (u11 := .slice u65.B u65.m u65.d) lz_ba).cell4, (ba_65.past12 (u0 := .bool u62.s) (u1 := .slice u62.A u62.n u62.c) (u2 := .slice u62.B u62.m u62.d) (u3 := .bool u63.s) (u4 := .slice u63.A u63.n u63.c) (u5 := .slice u63.B u63.m u63.d) (u6 := .bool u64.s) (u7 := .slice u64.A u64.n u64.c) (u8 := .slice u64.B u64.m u64.d) (u9 := .bool u65.s) (u10 := .slice u65.A u65.n u65.c) (u11 := .slice u65.B u65.m u65.d) lz_ba).cell5, (bb_65.past12 (u0 := .bool u62.s) (u1 := .slice u62.A u62.n u62.c) (u2 := .slice u62.B u62.m u62.d) (u3 := .bool u63.s) (u4 := .slice u63.A u63.n u63.c) (u5 := .slice u63.B u63.m u63.d) (u6 := .bool u64.s) (u7 := .slice u64.A u64.n u64.c) (u8 := .slice u64.B u64.m u64.d) (u9 := .bool u65.s) (u10 := .slice u65.A u65.n u65.c) (u11 := .slice u65.B u65.m u65.d) lz_bb).cell0, (bb_65.past12 (u0 := .bool u62.s) (u1 := .slice u62.A u62.n u62.c) (u2 := .slice u62.B u62.m u62.d) (u3 := .bool u63.s) (u4 := .slice u63.A u63.n u63.c) (u5 := .slice u63.B u63.m u63.d) (u6 := .bool u64.s) (u7 := .slice u64.A u64.n u64.c) (u8 := .slice u64.B u64.m u64.d) (u9 := .bool u65.s) (u10 := .slice u65.A u65.n u65.c) (u11 := .slice u65.B u65.m u65.d) lz_bb).cell1, (bb_65.past12 (u0 := .bool u62.s) (u1 := .slice u62.A u62.n u62.c) (u2 := .slice u62.B u62.m u62.d) (u3 := .bool u63.s) (u4 := .slice u63.A u63.n u63.c) (u5 := .slice u63.B u63.m u63.d) (u6 := .bool u64.s) (u7 := .slice u64.A u64.n u64.c) (u8 := .slice u64.B u64.m u64.d) (u9 := .bool u65.s) (u10 := .slice u65.A u65.n u65.c) (u11 := .slice u65.B u65.m u65.d) lz_bb).cell2, (bb_65.past12 (u0 := .bool u62.s) (u1 := .slice u62.A u62.n u62.c) (u2 := .slice u62.B u62.m u62.d) (u3 := .bool u63.s) (u4 := .slice u63.A u63.n u63.c) (u5 := .slice u63.B u63.m u63.d) (u6 := .bool u64.s) (u7 := .slice u64.A u64.n u64.c) (u8 := .slice u64.B u64.m u64.d) (u9 := .bool u65.s) (u10 := .slice u65.A u65.n u65.c) (u11 := .slice u65.B u65.m u65.d) lz_bb).cell3, (bb_65.past12 (u0 := .bool u62.s) (u1 := .slice u62.A u62.n u62.c) (u2 := .slice u62.B u62.m u62.d) (u3 := .bool u63.s) (u4 := .slice u63.A u63.n u63.c) (u5 := .slice u63.B u63.m u63.d) (u6 := .bool u64.s) (u7 := .slice u64.A u64.n u64.c) (u8 := .slice u64.B u64.m u64.d) (u9 := .bool u65.s) (u10 := .slice u65.A u65.n u65.c) (u11 := .slice u65.B u65.m u65.d) lz_bb).cell4, (bb_65.past12 (u0 := .bool u62.s) (u1 := .slice u62.A u62.n u62.c) (u2 := .slice u62.B u62.m u62.d) (u3 := .bool u63.s) (u4 := .slice u63.A u63.n u63.c) (u5 := .slice u63.B u63.m u63.d) (u6 := .bool u64.s) (u7 := .slice u64.A u64.n u64.c) (u8 := .slice u64.B u64.m u64.d) (u9 := .bool u65.s) (u10 := .slice u65.A u65.n u65.c) (u11 := .slice u65.B u65.m u65.d) lz_bb).cell5⟩
        | with_reducible exact ⟨(ba_65.alloc EA0).cell0, (ba_65.alloc EA0).cell1, (ba_65.alloc EA0).cell2, (ba_65.alloc EA0).cell3, (ba_65.alloc EA0).cell4, (ba_65.alloc EA0).cell5, (bb_65.alloc EA0).cell0, (bb_65.alloc EA0).cell1, (bb_65.alloc EA0).cell2, (bb_65.alloc EA0).cell3, (bb_65.alloc EA0).cell4, (bb_65.alloc EA0).cell5⟩
        | with_reducible exact ⟨ba_65.cell0, ba_65.cell1, ba_65.cell2, ba_65.cell3, ba_65.cell4, ba_65.cell5, bb_65.cell0, bb_65.cell1, bb_65.cell2, bb_65.cell3, bb_65.cell4, bb_65.cell5⟩
        | with_reducible exact ⟨(ba_64.alloc EA0).cell0, (ba_64.alloc EA0).cell1, (ba_64.alloc EA0).cell2, (ba_64.alloc EA0).cell3, (ba_64.alloc EA0).cell4, (ba_64.alloc EA0).cell5, (bb_64.alloc EA0).cell0, (bb_64.alloc EA0).cell1, (bb_64.alloc EA0).cell2, (bb_64.alloc EA0).cell3, (bb_64.alloc EA0).cell4, (bb_64.alloc EA0).cell5⟩
        | with_reducible exact ⟨ba_64.cell0, ba_64.cell1, ba_64.cell2, ba_64.cell3, ba_64.cell4, ba_64.cell5, bb_64.cell0, bb_64.cell1, bb_64.cell2, bb_64.cell3, bb_64.cell4, bb_64.cell5⟩
        | with_reducible exact ⟨(ba_63.alloc EA0).cell0, (ba_63.alloc EA0).cell1, (ba_63.alloc EA0).cell2, (ba_63.alloc EA0).cell3, (ba_63.alloc EA0).cell4, (ba_63.alloc EA0).cell5, (bb_63.alloc EA0).cell0, (bb_63.alloc EA0).cell1, (bb_63.alloc EA0).cell2, (bb_63.alloc EA0).cell3, (bb_63.alloc EA0).cell4, (bb_63.alloc EA0).cell5⟩
        | with_reducible exact ⟨ba_63.cell0, ba_63.cell1, ba_63.cell2, ba_63.cell3, ba_63.cell4, ba_63.cell5, bb_63.cell0, bb_63.cell1, bb_63.cell2, bb_63.cell3, bb_63.cell4, bb_63.cell5⟩
        | with_reducible exact ⟨(ba_62.alloc EA0).cell0, (ba_62.alloc EA0).cell1, (ba_62.alloc EA0).cell2, (ba_62.alloc EA0).cell3, (ba_62.alloc EA0).cell4, (ba_62.alloc EA0).cell5, (bb_62.alloc EA0).cell0, (bb_62.alloc EA0).cell1, (bb_62.alloc EA0).cell2, (bb_62.alloc EA0).cell3, (bb_62.alloc EA0).cell4, (bb_62.alloc EA0).cell5⟩
        | with_reducible exact ⟨ba_62.cell0, ba_62.cell1, ba_62.cell2, ba_62.cell3, ba_62.cell4, ba_62.cell5, bb_62.cell0, bb_62.cell1, bb_62.cell2, bb_62.cell3, bb_62.cell4, bb_62.cell5⟩
        | with_reducible exact ⟨ba_z0.cell0, ba_z0.cell1, ba_z0.cell2, ba_z0.cell3, ba_z0.cell4, ba_z0.cell5, bb_z0.cell0, bb_z0.cell1, bb_z0.cell2, bb_z0.cell3, bb_z0.cell4, bb_z0.cell5⟩
        | with_reducible exact ⟨ba_61.cell0, ba_61.cell1, ba_61.cell2, ba_61.cell3, ba_61.cell4, ba_61.cell5, bb_61.cell0, bb_61.cell1, bb_61.cell2, bb_61.cell3, bb_61.cell4, bb_61.cell5⟩
        | fail)
      (first
        | (go_at_call 28; (with_reducible refine (pmul_u _ _ p p' P0 _ H0.out ha_61 hx_61 la lx).mono ?_); rintro e w62 ⟨u62, rfl, e0, b62⟩; have ha_62 := ha_61.below b62; have hc_62 := hc_61.below b62; have hx_62 := hx_61.below b62; have hy_62 := hy_61.below b62; have ba_62 := ba_61.below b62 ba_61.lt; have bb_62 := bb_61.below b62 bb_61.lt; have br_62 := br_61.below b62 br_61.lt; have F62 := below_then F61 (Nat.le_refl _) b62)
        | (go_at_call 28; (with_reducible refine (pmul_u _ _ p p' P0 _ H0.out ha_z0 hx_z0 la lx).mono ?_); rintro e w62 ⟨u62, rfl, e0, b62⟩; have ha_62 := ha_z0.below b62; have hc_62 := hc_z0.below b62; have hx_62 := hx_z0.below b62; have hy_62 := hy_z0.below b62; have ba_62 := ba_z0.below b62 ba_z0.lt; have bb_62 := bb_z0.below b62 bb_z0.lt; have br_62 := br_z0.below b62 br_z0.lt; have F62 := below_then F_z0 (Nat.le_refl _) b62; have zb_62 := zb_0.below b62 zb_0.lt)
        | (go_at_call 28; (with_reducible refine (pmul_u _ _ p q' P1 _ H1.out ha_62 hy_62 la ly).mono ?_); rintro e w63 ⟨u63, rfl, e1, b63⟩; have ha_63 := ha_62.below b63; have hc_63 := hc_62.below b63; have hx_63 := hx_62.below b63; have hy_63 := hy_62.below b63; have e0_63 := e0.below b63; have ba_63 := ba_62.below b63 ba_62.lt; have bb_63 := bb_62.below b63 bb_62.lt; have br_63 := br_62.below b63 br_62.lt; have F63 := below_then F62 (Nat.le_refl _) b63; have zb_63 := zb_62.below b63 zb_62.lt)
        | (go_at_call 28; (with_reducible refine (pmul_u _ _ p q' P1 _ H1.out ha_62 hy_62 la ly).mono ?_); rintro e w63 ⟨u63, rfl, e1, b63⟩; have ha_63 := ha_62.below b63; have hc_63 := hc_62.below b63; have hx_63 := hx_62.below b63; have hy_63 := hy_62.below b63; have e0_63 := e0.below b63; have ba_63 := ba_62.below b63 ba_62.lt; have bb_63 := bb_62.below b63 bb_62.lt; have br_63 := br_62.below b63 br_62.lt; have F63 := below_then F62 (Nat.le_refl _) b63)
        | (have ha_z63 := ha_62.alloc EA0; have hc_z63 := hc_62.alloc EA0; have hx_z63 := hx_62.alloc EA0; have hy_z63 := hy_62.alloc EA0; have e0_z63 := e0.alloc EA0; have ba_z63 := ba_62.alloc EA0; have bb_z63 := bb_62.alloc EA0; have br_z63 := br_62.alloc EA0; have lz_ba := Nat.ne_of_lt ba_62.lt; have lz_bb := Nat.ne_of_lt bb_62.lt; have lz_br := Nat.ne_of_lt br_62.lt; have gl := F62.size; have F_z63 := F62.alloc F62.size EA0; have zb_62 := S12.new (w62) (.bool false) (.slice none 0 0) (.slice none 0 0) (.bool false) (.slice none 0 0) (.slice none 0 0) (.bool false) (.slice none 0 0) (.slice none 0 0) (.bool false) (.slice none 0 0) (.slice none 0 0); go_at_call 28; (with_reducible refine (pmul_u _ _ p q' P1 _ H1.out ha_z63 hy_z63 la ly).mono ?_); rintro e w63 ⟨u63, rfl, e1, b63⟩; have ha_63 := ha_z63.below b63; have hc_63 := hc_z63.below b63; have hx_63 := hx_z63.below b63; have hy_63 := hy_z63.below b63; have e0_63 := e0_z63.below b63; have ba_63 := ba_z63.below b63 ba_z63.lt; have bb_63 := bb_z63.below b63 bb_z63.lt; have br_63 := br_z63.below b63 br_z63.lt; have F63 := below_then F_z63 (Nat.le_refl _) b63; have zb_63 := zb_62.below b63 zb_62.lt)
        | (go_at_call 28; (with_reducible refine (pmul_u _ _ q p' P2 _ H2.out hc_63 hx_63 lc lx).mono ?_); rintro e w64 ⟨u64, rfl, e2, b64⟩; have ha_64 := ha_63.below b64; have hc_64 := hc_63.below b64; have hx_64 := hx_63.below b64; have hy_64 := hy_63.below b64; have e0_64 := e0_63.below b64; have e1_64 := e1.below b64; have ba_64 := ba_63.below b64 ba_63.lt; have bb_64 := bb_63.below b64 bb_63.lt; have br_64 := br_63.below b64 br_63.lt; have F64 := below_then F63 (Nat.le_refl _) b64; have zb_64 := zb_63.below b64 zb_63.lt)
        | (go_at_call 28; (with_reducible refine (pmul_u _ _ q p' P2 _ H2.out hc_63 hx_63 lc lx).mono ?_); rintro e w64 ⟨u64, rfl, e2, b64⟩; have ha_64 := ha_63.below b64; have hc_64 := hc_63.below b64; have hx_64 := hx_63.below b64; have hy_64 := hy_63.below b64; have e0_64 := e0_63.below b64; have e1_64 := e1.below b64; have ba_64 := ba_63.below b64 ba_63.lt; have bb_64 := bb_63.below b64 bb_63.lt; have br_64 := br_63.below b64 br_63.lt; have F64 := below_then F63 (Nat.le_refl _) b64)
        | (have ha_z64 := ha_63.alloc EA0; have hc_z64 := hc_63.alloc EA0; have hx_z64 := hx_63.alloc EA0; have hy_z64 := hy_63.alloc EA0; have e0_z64 := e0_63.alloc EA0; have e1_z64 := e1.alloc EA0; have ba_z64 := ba_63.alloc EA0; have bb_z64 := bb_63.alloc EA0; have br_z64 := br_63.alloc EA0; have lz_ba := Nat.ne_of_lt ba_63.lt; have lz_bb := Nat.ne_of_lt bb_63.lt; have lz_br := Nat.ne_of_lt br_63.lt; have gl := F63.size; have F_z64 := F63.alloc F63.size EA0; have zb_63 := S12.new (w63) (.bool false) (.slice none 0 0) (.slice none 0 0) (.bool false) (.slice none 0 0) (.slice none 0 0) (.bool false) (.slice none 0 0) (.slice none 0 0) (.bool false) (.slice none 0 0) (.slice none 0 0); go_at_call 28; (with_reducible refine (pmul_u _ _ q p' P2 _ H2.out hc_z64 hx_z64 lc lx).mono ?_); rintro e w64 ⟨u64, rfl, e2, b64⟩; have ha_64 := ha_z64.below b64; have hc_64 := hc_z64.below b64; have hx_64 := hx_z64.below b64; have hy_64 := hy_z64.below b64; have e0_64 := e0_z64.below b64; have e1_64 := e1_z64.below b64; have ba_64 := ba_z64.below b64 ba_z64.lt; have bb_64 := bb_z64.below b64 bb_z64.lt; have br_64 := br_z64.below b64 br_z64.lt; have F64 := below_then F_z64 (Nat.le_refl _) b64; have zb_64 := zb_63.below b64 zb_63.lt)
        | (go_at_call 28; (with_reducible refine (pmul_u _ _ q q' P3 _ H3.out hc_64 hy_64 lc ly).mono ?_); rintro e w65 ⟨u65, rfl, e3, b65⟩; have ha_65 := ha_64.below b65; have hc_65 := hc_64.below b65; have hx_65 := hx_64.below b65; have hy_65 := hy_64.below b65; have e0_65 := e0_64.below b65; have e1_65 := e1_64.below b65; have e2_65 := e2.below b65; have ba_65 := ba_64.below b65 ba_64.lt; have bb_65 := bb_64.below b65 bb_64.lt; have br_65 := br_64.below b65 br_64.lt; have F65 := below_then F64 (Nat.le_refl _) b65; have zb_65 := zb_64.below b65 zb_64.lt; have zk65_0 := zb_65.cell0; have zk65_1 := zb_65.cell1; have zk65_2 := zb_65.cell2; have zk65_3 := zb_65.cell3; have zk65_4 := zb_65.cell4; have zk65_5 := zb_65.cell5; have zk65_6 := zb_65.cell6; have zk65_7 := zb_65.cell7; have zk65_8 := zb_65.cell8; have zk65_9 := zb_65.cell9; have zk65_10 := zb_65.cell10; have zk65_11 := zb_65.cell11; have zf65_0 := zb_65.frozen 0; have zf65_1 := zb_65.frozen 1; have zf65_2 := zb_65.frozen 2; have zf65_3 := zb_65.frozen 3; have zf65_4 := zb_65.frozen 4; have zf65_5 := zb_65.frozen 5; have zf65_6 := zb_65.frozen 6; have zf65_7 := zb_65.frozen 7; have zf65_8 := zb_65.frozen 8; have zf65_9 := zb_65.frozen 9; have zf65_10 := zb_65.frozen 10; have zf65_11 := zb_65.frozen 11)
        | (go_at_call 28; (with_reducible refine (pmul_u _ _ q q' P3 _ H3.out hc_64 hy_64 lc ly).mono ?_); rintro e w65 ⟨u65, rfl, e3, b65⟩; have ha_65 := ha_64.below b65; have hc_65 := hc_64.below b65; have hx_65 := hx_64.below b65; have hy_65 := hy_64.below b65; have e0_65 := e0_64.below b65; have e1_65 := e1_64.below b65; have e2_65 := e2.below b65; have ba_65 := ba_64.below b65 ba_64.lt; have bb_65 := bb_64.below b65 bb_64.lt; have br_65 := br_64.below b65 br_64.lt; have F65 := below_then F64 (Nat.le_refl _) b65)
        | (have ha_z65 := ha_64.alloc EA0; have hc_z65 := hc_64.alloc EA0; have hx_z65 := hx_64.alloc EA0; have hy_z65 := hy_64.alloc EA0; have e0_z65 := e0_64.alloc EA0; have e1_z65 := e1_64.alloc EA0; have e2_z65 := e2.alloc EA0; have ba_z65 := ba_64.alloc EA0; have bb_z65 := bb_64.alloc EA0; have br_z65 := br_64.alloc EA0; have lz_ba := Nat.ne_of_lt ba_64.lt; have lz_bb := Nat.ne_of_lt bb_64.lt; have lz_br := Nat.ne_of_lt br_64.lt; have gl := F64.size; have F_z65 := F64.alloc F64.size EA0; have zb_64 := S12.new (w64) (.bool false) (.slice none 0 0) (.slice none 0 0) (.bool false) (.slice none 0 0) (.slice none 0 0) (.bool false) (.slice none 0 0) (.slice none 0 0) (.bool false) (.slice none 0 0) (.slice none 0 0); go_at_call 28; (with_reducible refine (pmul_u _ _ q q' P3 _ H3.out hc_z65 hy_z65 lc ly).mono ?_); rintro e w65 ⟨u65, rfl, e3, b65⟩; have ha_65 := ha_z65.below b65; have hc_65 := hc_z65.below b65; have hx_65 := hx_z65.below b65; have hy_65 := hy_z65.below b65; have e0_65 := e0_z65.below b65; have e1_65 := e1_z65.below b65; have e2_65 := e2_z65.below b65; have ba_65 := ba_z65.below b65 ba_z65.lt; have bb_65 := bb_z65.below b65 bb_z65.lt; have br_65 := br_z65.below b65 br_z65.lt; have F65 := below_then F_z65 (Nat.le_refl _) b65; have zb_65 := zb_64.below b65 zb_64.lt; have zk65_0 := zb_65.cell0; have zk65_1 := zb_65.cell1; have zk65_2 := zb_65.cell2; have zk65_3 := zb_65.cell3; have zk65_4 := zb_65.cell4; have zk65_5 := zb_65.cell5; have zk65_6 := zb_65.cell6; have zk65_7 := zb_65.cell7; have zk65_8 := zb_65.cell8; have zk65_9 := zb_65.cell9; have zk65_10 := zb_65.cell10; have zk65_11 := zb_65.cell11; have zf65_0 := zb_65.frozen 0; have zf65_1 := zb_65.frozen 1; have zf65_2 := zb_65.frozen 2; have zf65_3 := zb_65.frozen 3; have zf65_4 := zb_65.frozen 4; have zf65_5 := zb_65.frozen 5; have zf65_6 := zb_65.frozen 6; have zf65_7 := zb_65.frozen 7; have zf65_8 := zb_65.frozen 8; have zf65_9 := zb_65.frozen 9; have zf65_10 := zb_65.frozen 10; have zf65_11 := zb_65.frozen 11)
        | fail)
    all_goals (go_wp2_with fail; go_meet; first | exact ⟨_, _, u62, u63, u64, u65, rfl, rfl, zb_65.stor, gl, lz_ba, lz_bb, lz_br, ba_65.past12 lz_ba, bb_65.past12 lz_bb, br_65.past12 lz_br, ha_65.stor12 zb_65 (.bool u62.s) (.slice u62.A u62.n u62.c) (.slice u62.B u62.m u62.d) (.bool u63.s) (.slice u63.A u63.n u63.c) (.slice u63.B u63.m u63.d) (.bool u64.s) (.slice u64.A u64.n u64.c) (.slice u64.B u64.m u64.d) (.bool u65.s) (.slice u65.A u65.n u65.c) (.slice u65.B u65.m u65.d), hc_65.stor12 zb_65 (.bool u62.s) (.slice u62.A u62.n u62.c) (.slice u62.B u62.m u62.d) (.bool u63.s) (.slice u63.A u63.n u63.c) (.slice u63.B u63.m u63.d) (.bool u64.s) (.slice u64.A u64.n u64.c) (.slice u64.B u64.m u64.d) (.bool u65.s) (.slice u65.A u65.n u65.c) (.slice u65.B u65.m u65.d), hx_65.stor12 zb_65 (.bool u62.s) (.slice u62.A u62.n u62.c) (.slice u62.B u62.m u62.d) (.bool u63.s) (.slice u63.A u63.n u63.c) (.slice u63.B u63.m u63.d) (.bool u64.s) (.slice u64.A u64.n u64.c) (.slice u64.B u64.m u64.d) (.bool u65.s) (.slice u65.A u65.n u65.c) (.slice u65.B u65.m u65.d), hy_65.stor12 zb_65 (.bool u62.s) (.slice u62.A u62.n u62.c) (.slice u62.B u62.m u62.d) (.bool u63.s) (.slice u63.A u63.n u63.c) (.slice u63.B u63.m u63.d) (.bool u64.s) (.slice u64.A u64.n u64.c) (.slice u64.B u64.m u64.d) (.bool u65.s) (.slice u65.A u65.n u65.c) (.slice u65.B u65.m u65.d), e0_65.stor12 zb_65 (.bool u62.s) (.slice u62.A u62.n u62.c) (.slice u62.B u62.m u62.d) (.bool u63.s) (.slice u63.A u63.n u63.c) (.slice u63.B u63.m u63.d) (.bool u64.s) (.slice u64.A u64.n u64.c) (.slice u64.B u64.m u64.d) (.bool u65.s) (.slice u65.A u65.n u65.c) (.slice u65.B u65.m u65.d), e1_65.stor12 zb_65 (.bool u62.s) (.slice u62.A u62.n u62.c) (.slice u62.B u62.m u62.d) (.bool u63.s) (.slice u63.A u63.n u63.c) (.slice u63.B u63.m u63.d) (.bool u64.s) (.slice u64.A u64.n u64.c) (.slice u64.B u64.m u64.d) (.bool u65.s) (.slice u65.A u65.n u65.c) (.slice u65.B u65.m u65.d), e2_65.stor12 zb_65 (.bool u62.s) (.slice u62.A u62.n u62.c) (.slice u62.B u62.m u62.d) (.bool u63.s) (.slice u63.A u63.n u63.c) (.slice u63.B u63.m u63.d) (.bool u64.s) (.slice u64.A u64.n u64.c) (.slice u64.B u64.m u64.d) (.bool u65.s) (.slice u65.A u65.n u65.c) (.slice u65.B u65.m u65.d), e3.stor12 zb_65 (.bool u62.s) (.slice u62.A u62.n u62.c) (.slice u62.B u62.m u62.d) (.bool u63.s) (.slice u63.A u63.n u63.c) (.slice u63.B u63.m u63.d) (.bool u64.s) (.slice u64.A u64.n u64.c) (.slice u64.B u64.m u64.d) (.bool u65.s) (.slice u65.A u65.n u65.c) (.slice u65.B u65.m u65.d), below_12 F65 gl⟩ | exact ⟨_, _, u62, u63, u64, u65, rfl, rfl, S12.new w65 (.bool u62.s) (.slice u62.A u62.n u62.c) (.slice u62.B u62.m u62.d) (.bool u63.s) (.slice u63.A u63.n u63.c) (.slice u63.B u63.m u63.d) (.bool u64.s) (.slice u64.A u64.n u64.c) (.slice u64.B u64.m u64.d) (.bool u65.s) (.slice u65.A u65.n u65.c) (.slice u65.B u65.m u65.d), F65.size, Nat.ne_of_lt ba_65.lt, Nat.ne_of_lt bb_65.lt, Nat.ne_of_lt br_65.lt, ba_65.alloc (EA u62 u63 u64 u65), bb_65.alloc (EA u62 u63 u64 u65), br_65.alloc (EA u62 u63 u64 u65), ha_65.alloc (EA u62 u63 u64 u65), hc_65.alloc (EA u62 u63 u64 u65), hx_65.alloc (EA u62 u63 u64 u65), hy_65.alloc (EA u62 u63 u64 u65), e0_65.alloc (EA u62 u63 u64 u65), e1_65.alloc (EA u62 u63 u64 u65), e2_65.alloc (EA u62 u63 u64 u65), e3.alloc (EA u62 u63 u64 u65), F65.alloc F65.size _⟩ | fail)
  case rest =>
    obtain ⟨wx60, g66, u62, u63, u64, u65, rfl, rfl, be_066, gl_66, ne_be_ba, ne_be_bb, ne_be_br, ba_66, bb_66, br_66, ha_66, hc_66, hx_66, hy_66, e0_66, e1_66, e2_66, e3_66, F66⟩ := hcut
    have be_66 : Sa wx60 g66 u62 u63 u64 u65 := be_066
    clear be_066
    have ba_u66 := ba_66.cell0
    have ba_v66 := ba_66.cell1
    have ba_w66 := ba_66.cell2
    have ba_x66 := ba_66.cell3
    have ba_y66 := ba_66.cell4
    have ba_z66 := ba_66.cell5
    have bb_u66 := bb_66.cell0
    have bb_v66 := bb_66.cell1
    have bb_w66 := bb_66.cell2
    have bb_x66 := bb_66.cell3
    have bb_y66 := bb_66.cell4
    have bb_z66 := bb_66.cell5
    have br_u66 : (wx60).cell? ⟨w.heap.size + 2, 0, none⟩ = some (.bool false) := br_66.cell0
    have br_v66 : (wx60).cell? ⟨w.heap.size + 2, 1, none⟩ = some (.slice none 0 0) := br_66.cell1
    have br_w66 : (wx60).cell? ⟨w.heap.size + 2, 2, none⟩ = some (.slice none 0 0) := br_66.cell2
    have br_x66 : (wx60).cell? ⟨w.heap.size + 2, 3, none⟩ = some (.bool false) := br_66.cell3
    have br_y66 : (wx60).cell? ⟨w.heap.size + 2, 4, none⟩ = some (.slice none 0 0) := br_66.cell4
    have br_z66 : (wx60).cell? ⟨w.heap.size + 2, 5, none⟩ = some (.slice none 0 0) := br_66.cell5
    have be_u66 := be_66.cell0
    have be_v66 := be_66.cell1
    have be_w66 := be_66.cell2
    have be_x66 := be_66.cell3
    have be_y66 := be_66.cell4
    have be_z66 := be_66.cell5
    have be_a66 := be_66.cell6
    have be_b66 := be_66.cell7
    have be_c66 := be_66.cell8
    have be_d66 := be_66.cell9
    have be_e66 := be_66.cell10
    have be_f66 := be_66.cell11
    have lt_bo_br := br_66.lt
    have lt_bo_be := be_66.lt
    have e0_67 := e0_66.alloc (EV u62 u65)
    have e1_67 := e1_66.alloc (EV u62 u65)
    have e2_67 := e2_66.alloc (EV u62 u65)
    have e3_67 := e3_66.alloc (EV u62 u65)
    have br_67 := br_66.alloc (EV u62 u65)
    have be_67 := be_66.alloc (EV u62 u65)
    have bo_67 : Sv ((wx60).alloc (EV u62 u65)) (wx60.heap.size) u62 u65 := by have h_ := Sv.new (wx60) u62 u65; exact h_
    have F67 := F66.alloc F66.size (EV u62 u65)
    have br_u67 : ((wx60).alloc (EV u62 u65)).cell? ⟨w.heap.size + 2, 0, none⟩ = some (.bool false) := br_67.cell0
    have br_v67 : ((wx60).alloc (EV u62 u65)).cell? ⟨w.heap.size + 2, 1, none⟩ = some (.slice none 0 0) := br_67.cell1
    have br_w67 : ((wx60).alloc (EV u62 u65)).cell? ⟨w.heap.size + 2, 2, none⟩ = some (.slice none 0 0) := br_67.cell2
    have br_x67 : ((wx60).alloc (EV u62 u65)).cell? ⟨w.heap.size + 2, 3, none⟩ = some (.bool false) := br_67.cell3
    have br_y67 : ((wx60).alloc (EV u62 u65)).cell? ⟨w.heap.size + 2, 4, none⟩ = some (.slice none 0 0) := br_67.cell4
    have br_z67 : ((wx60).alloc (EV u62 u65)).cell? ⟨w.heap.size + 2, 5, none⟩ = some (.slice none 0 0) := br_67.cell5
    have be_u67 := be_67.cell0
    have be_v67 := be_67.cell1
    have be_w67 := be_67.cell2
    have be_x67 := be_67.cell3
    have be_y67 := be_67.cell4
    have be_z67 := be_67.cell5
    have be_a67 := be_67.cell6
    have be_b67 := be_67.cell7
    have be_c67 := be_67.cell8
    have be_d67 := be_67.cell9
    have be_e67 := be_67.cell10
    have be_f67 := be_67.cell11
    have bo_u67 := bo_67.cell0
    have bo_v67 := bo_67.cell1
    have bo_w67 := bo_67.cell2
    have bo_x67 := bo_67.cell3
    have bo_y67 := bo_67.cell4
    have bo_z67 := bo_67.cell5
    have gl0 : w.heap.size ≤ wx60.heap.size := F66.size
    have ne0 : w.heap.size + 2 ≠ wx60.heap.size := Nat.ne_of_lt lt_bo_br
    go_wp2_with fail
    go_loopw [36] (fun s36 wr => ∃ (i : Nat) (lo hi : Rv) (x9 y9 : Rat), i ≤ 4 ∧ s36 = .int .i64 (i : Int) ∧ Sv wr (w.heap.size + 2) Rv.zero Rv.zero ∧ Sv wr (wx60.heap.size) lo hi ∧ Cu wr lo x9 ∧ Cu wr hi y9 ∧ Cu wr u62 P0 ∧ Cu wr u63 P1 ∧ Cu wr u64 P2 ∧ Cu wr u65 P3 ∧ Below w.heap.size w wr ∧ Hid (x9 = mnp P0 P1 P2 P3 i ∧ y9 = mxp P0 P1 P2 P3 i ∧ Qs 200 x9 ∧ Qs 200 y9)) (fun s36 _ => 4 - (intOf s36).toNat)
    case atStart => exact ⟨0, u62, u65, P0, P3, by omega, rfl, br_67, bo_67, e0_67, e3_67, e0_67, e1_67, e2_67, e3_67, F67, hide ⟨rfl, rfl, s0, s3⟩⟩
    case round =>
      obtain ⟨i, lo, hi, x9, y9, hi4, rfl, Hb, Ho, Klo, Khi, E0, E1, E2, E3, FB, HR⟩ := hrel
      have llo := (Klo.len HR.out.2.2.1).mono k2
      have lhi := (Khi.len HR.out.2.2.2).mono k2
      rcases Nat.lt_or_ge i 4 with hi9 | hi9
      · obtain ⟨eu, Pe, Ee, se, ix, HN⟩ : ∃ (eu : Rv) (Pe : Rat), Cu wr eu Pe ∧ Qs 200 Pe ∧ (∀ w : World, (Instr.index 50 (.agg #[.bool u62.s, .slice u62.A u62.n u62.c, .slice u62.B u62.m u62.d, .bool u63.s, .slice u63.A u63.n u63.c, .slice u63.B u63.m u63.d, .bool u64.s, .slice u64.A u64.n u64.c, .slice u64.B u64.m u64.d, .bool u65.s, .slice u65.A u65.n u65.c, .slice u65.B u65.m u65.d]) (.int .i64 (i : Int))).run Tryz.prog w = .ok (.agg #[.bool eu.s, .slice eu.A eu.n eu.c, .slice eu.B eu.m eu.d]) w) ∧ Hid (mnp P0 P1 P2 P3 (i + 1) = min (mnp P0 P1 P2 P3 i) Pe ∧ mxp P0 P1 P2 P3 (i + 1) = max (mxp P0 P1 P2 P3 i) Pe) := by
          rcases (show i = 0 ∨ i = 1 ∨ i = 2 ∨ i = 3 by omega) with rfl | rfl | rfl | rfl
          · exact ⟨u62, P0, E0, s0, fun _ => by first | rfl | kernel_rfl, hide ⟨rfl, rfl⟩⟩
          · exact ⟨u63, P1, E1, s1, fun _ => by first | rfl | kernel_rfl, hide ⟨rfl, rfl⟩⟩
          · exact ⟨u64, P2, E2, s2, fun _ => by first | rfl | kernel_rfl, hide ⟨rfl, rfl⟩⟩
          · exact ⟨u65, P3, E3, s3, fun _ => by first | rfl | kernel_rfl, hide ⟨rfl, rfl⟩⟩
        have lee := (Ee.len se).mono k2
        have dg : decide ((i : Int) < 4) = true := by simp; omega
        obtain ⟨r1, hr1⟩ : ∃ r, sz (Pe - x9).num = r := ⟨_, rfl⟩
        obtain ⟨r2, hr2⟩ : ∃ r, sz (Pe - y9).num = r := ⟨_, rfl⟩
        have HR1 := hide hr1
        have HR2 := hide hr2
        rcases Bool.eq_false_or_eq_true (decide (r1 < 0)) with e1 | e1
        · have HM1 := hide (mn_t (x := x9) (P := Pe) (by rw [hr1]; exact e1))
          rcases Bool.eq_false_or_eq_true (decide (0 < r2)) with e2 | e2
          · have HM2 := hide (mx_t (x := y9) (P := Pe) (by rw [hr2]; exact e2))
            clear hr1 hr2
            have br_u67 : (wr).cell? ⟨w.heap.size + 2, 0, none⟩ = some (.bool false) := Hb.cell0
            have br_v67 : (wr).cell? ⟨w.heap.size + 2, 1, none⟩ = some (.slice none 0 0) := Hb.cell1
            have br_w67 : (wr).cell? ⟨w.heap.size + 2, 2, none⟩ = some (.slice none 0 0) := Hb.cell2
            have br_x67 : (wr).cell? ⟨w.heap.size + 2, 3, none⟩ = some (.bool false) := Hb.cell3
            have br_y67 : (wr).cell? ⟨w.heap.size + 2, 4, none⟩ = some (.slice none 0 0) := Hb.cell4
            have br_z67 : (wr).cell? ⟨w.heap.size + 2, 5, none⟩ = some (.slice none 0 0) := Hb.cell5
            have bo_u67 := Ho.cell0
            have bo_v67 := Ho.cell1
            have bo_w67 := Ho.cell2
            have bo_x67 := Ho.cell3
            have bo_y67 := Ho.cell4
            have bo_z67 := Ho.cell5
            have lt_bi_br := Hb.lt
            have lt_bi_bo := Ho.lt
            have lo_68 := Klo.alloc (EU eu)
            have hi_68 := Khi.alloc (EU eu)
            have ee_68 := Ee.alloc (EU eu)
            have e0_68 := E0.alloc (EU eu)
            have e1_68 := E1.alloc (EU eu)
            have e2_68 := E2.alloc (EU eu)
            have e3_68 := E3.alloc (EU eu)
            have br_68 := Hb.alloc (EU eu)
            have bo_68 := Ho.alloc (EU eu)
            have bi_68 : Su ((wr).alloc (EU eu)) (wr.heap.size) eu := by have h_ := Su.new (wr) eu; exact h_
            have F68 := FB.alloc FB.size (EU eu)
            have br_u68 : ((wr).alloc (EU eu)).cell? ⟨w.heap.size + 2, 0, none⟩ = some (.bool false) := br_68.cell0
            have br_v68 : ((wr).alloc (EU eu)).cell? ⟨w.heap.size + 2, 1, none⟩ = some (.slice none 0 0) := br_68.cell1
            have br_w68 : ((wr).alloc (EU eu)).cell? ⟨w.heap.size + 2, 2, none⟩ = some (.slice none 0 0) := br_68.cell2
            have br_x68 : ((wr).alloc (EU eu)).cell? ⟨w.heap.size + 2, 3, none⟩ = some (.bool false) := br_68.cell3
            have br_y68 : ((wr).alloc (EU eu)).cell? ⟨w.heap.size + 2, 4, none⟩ = some (.slice none 0 0) := br_68.cell4
            have br_z68 : ((wr).alloc (EU eu)).cell? ⟨w.heap.size + 2, 5, none⟩ = some (.slice none 0 0) := br_68.cell5
            have bo_u68 := bo_68.cell0
            have bo_v68 := bo_68.cell1
            have bo_w68 := bo_68.cell2
            have bo_x68 := bo_68.cell3
            have bo_y68 := bo_68.cell4
            have bo_z68 := bo_68.cell5
            have bi_u68 := bi_68.cell0
            have bi_v68 := bi_68.cell1
            have bi_w68 := bi_68.cell2
            go_wp2_with fail
            refine (pcmp_u _ _ Pe x9 r1 _ HR1.out ee_68.iu lo_68.iu lee llo).mono ?_
            rintro e w69 ⟨rfl, b69⟩
            have lo_69 := lo_68.below b69
            have hi_69 := hi_68.below b69
            have ee_69 := ee_68.below b69
            have e0_69 := e0_68.below b69
            have e1_69 := e1_68.below b69
            have e2_69 := e2_68.below b69
            have e3_69 := e3_68.below b69
            have br_69 := br_68.below b69 br_68.lt
            have bo_69 := bo_68.below b69 bo_68.lt
            have bi_69 := bi_68.below b69 bi_68.lt
            have F69 := below_then F68 (Nat.le_refl _) b69
            have br_u69 : (w69).cell? ⟨w.heap.size + 2, 0, none⟩ = some (.bool false) := br_69.cell0
            have br_v69 : (w69).cell? ⟨w.heap.size + 2, 1, none⟩ = some (.slice none 0 0) := br_69.cell1
            have br_w69 : (w69).cell? ⟨w.heap.size + 2, 2, none⟩ = some (.slice none 0 0) := br_69.cell2
            have br_x69 : (w69).cell? ⟨w.heap.size + 2, 3, none⟩ = some (.bool false) := br_69.cell3
            have br_y69 : (w69).cell? ⟨w.heap.size + 2, 4, none⟩ = some (.slice none 0 0) := br_69.cell4
            have br_z69 : (w69).cell? ⟨w.heap.size + 2, 5, none⟩ = some (.slice none 0 0) := br_69.cell5
            have bo_u69 := bo_69.cell0
            have bo_v69 := bo_69.cell1
            have bo_w69 := bo_69.cell2
            have bo_x69 := bo_69.cell3
            have bo_y69 := bo_69.cell4
            have bo_z69 := bo_69.cell5
            have bi_u69 := bi_69.cell0
            have bi_v69 := bi_69.cell1
            have bi_w69 := bi_69.cell2
            have bo_f069 := bo_69.frozen 0
            have bo_f169 := bo_69.frozen 1
            have bo_f269 := bo_69.frozen 2
            have bo_f369 := bo_69.frozen 3
            have bo_f469 := bo_69.frozen 4
            have bo_f569 := bo_69.frozen 5
            have ni_lo : wr.heap.size ≠ wx60.heap.size := Ne.symm (Nat.ne_of_lt lt_bi_bo)
            have bi9_lo := bi_69.past3 (u0 := .bool eu.s) (u1 := .slice eu.A eu.n eu.c) (u2 := .slice eu.B eu.m eu.d) ni_lo
            have lo_70 := lo_69.lo3 bo_69 (.bool eu.s) (.slice eu.A eu.n eu.c) (.slice eu.B eu.m eu.d)
            have hi_70 := hi_69.lo3 bo_69 (.bool eu.s) (.slice eu.A eu.n eu.c) (.slice eu.B eu.m eu.d)
            have ee_70 := ee_69.lo3 bo_69 (.bool eu.s) (.slice eu.A eu.n eu.c) (.slice eu.B eu.m eu.d)
            have e0_70 := e0_69.lo3 bo_69 (.bool eu.s) (.slice eu.A eu.n eu.c) (.slice eu.B eu.m eu.d)
            have e1_70 := e1_69.lo3 bo_69 (.bool eu.s) (.slice eu.A eu.n eu.c) (.slice eu.B eu.m eu.d)
            have e2_70 := e2_69.lo3 bo_69 (.bool eu.s) (.slice eu.A eu.n eu.c) (.slice eu.B eu.m eu.d)
            have e3_70 := e3_69.lo3 bo_69 (.bool eu.s) (.slice eu.A eu.n eu.c) (.slice eu.B eu.m eu.d)
            have bo_70 := bo_69.lo3 eu
            have br_70 := br_69.lo9 ne0 (.bool eu.s) (.slice eu.A eu.n eu.c) (.slice eu.B eu.m eu.d)
            have F70 := below_thr F69 gl0 0 1 2 (.bool eu.s) (.slice eu.A eu.n eu.c) (.slice eu.B eu.m eu.d)
            have br_u70 : (((((w69).setCell ⟨wx60.heap.size, 0, none⟩ (.bool eu.s)).setCell ⟨wx60.heap.size, 1, none⟩ (.slice eu.A eu.n eu.c)).setCell ⟨wx60.heap.size, 2, none⟩ (.slice eu.B eu.m eu.d))).cell? ⟨w.heap.size + 2, 0, none⟩ = some (.bool false) := br_70.cell0
            have br_v70 : (((((w69).setCell ⟨wx60.heap.size, 0, none⟩ (.bool eu.s)).setCell ⟨wx60.heap.size, 1, none⟩ (.slice eu.A eu.n eu.c)).setCell ⟨wx60.heap.size, 2, none⟩ (.slice eu.B eu.m eu.d))).cell? ⟨w.heap.size + 2, 1, none⟩ = some (.slice none 0 0) := br_70.cell1
            have br_w70 : (((((w69).setCell ⟨wx60.heap.size, 0, none⟩ (.bool eu.s)).setCell ⟨wx60.heap.size, 1, none⟩ (.slice eu.A eu.n eu.c)).setCell ⟨wx60.heap.size, 2, none⟩ (.slice eu.B eu.m eu.d))).cell? ⟨w.heap.size + 2, 2, none⟩ = some (.slice none 0 0) := br_70.cell2
            have br_x70 : (((((w69).setCell ⟨wx60.heap.size, 0, none⟩ (.bool eu.s)).setCell ⟨wx60.heap.size, 1, none⟩ (.slice eu.A eu.n eu.c)).setCell ⟨wx60.heap.size, 2, none⟩ (.slice eu.B eu.m eu.d))).cell? ⟨w.heap.size + 2, 3, none⟩ = some (.bool false) := br_70.cell3
            have br_y70 : (((((w69).setCell ⟨wx60.heap.size, 0, none⟩ (.bool eu.s)).setCell ⟨wx60.heap.size, 1, none⟩ (.slice eu.A eu.n eu.c)).setCell ⟨wx60.heap.size, 2, none⟩ (.slice eu.B eu.m eu.d))).cell? ⟨w.heap.size + 2, 4, none⟩ = some (.slice none 0 0) := br_70.cell4
            have br_z70 : (((((w69).setCell ⟨wx60.heap.size, 0, none⟩ (.bool eu.s)).setCell ⟨wx60.heap.size, 1, none⟩ (.slice eu.A eu.n eu.c)).setCell ⟨wx60.heap.size, 2, none⟩ (.slice eu.B eu.m eu.d))).cell? ⟨w.heap.size + 2, 5, none⟩ = some (.slice none 0 0) := br_70.cell5
            have bo_u70 := bo_70.cell0
            have bo_v70 := bo_70.cell1
            have bo_w70 := bo_70.cell2
            have bo_x70 := bo_70.cell3
            have bo_y70 := bo_70.cell4
            have bo_z70 := bo_70.cell5
            have bi_u70 := bi9_lo.cell0
            have bi_v70 := bi9_lo.cell1
            have bi_w70 := bi9_lo.cell2
            go_wp2_with fail
            refine (pcmp_u _ _ Pe y9 r2 _ HR2.out ee_70.iu hi_70.iu lee lhi).mono ?_
            rintro e w71 ⟨rfl, b71⟩
            have lo_71 := lo_70.below b71
            have hi_71 := hi_70.below b71
            have ee_71 := ee_70.below b71
            have e0_71 := e0_70.below b71
            have e1_71 := e1_70.below b71
            have e2_71 := e2_70.below b71
            have e3_71 := e3_70.below b71
            have br_71 := br_70.below b71 br_70.lt
            have bo_71 := bo_70.below b71 bo_70.lt
            have bi_71 := bi9_lo.below b71 bi9_lo.lt
            have F71 := below_then F70 (Nat.le_refl _) b71
            have br_u71 : (w71).cell? ⟨w.heap.size + 2, 0, none⟩ = some (.bool false) := br_71.cell0
            have br_v71 : (w71).cell? ⟨w.heap.size + 2, 1, none⟩ = some (.slice none 0 0) := br_71.cell1
            have br_w71 : (w71).cell? ⟨w.heap.size + 2, 2, none⟩ = some (.slice none 0 0) := br_71.cell2
            have br_x71 : (w71).cell? ⟨w.heap.size + 2, 3, none⟩ = some (.bool false) := br_71.cell3
            have br_y71 : (w71).cell? ⟨w.heap.size + 2, 4, none⟩ = some (.slice none 0 0) := br_71.cell4
            have br_z71 : (w71).cell? ⟨w.heap.size + 2, 5, none⟩ = some (.slice none 0 0) := br_71.cell5
            have bo_u71 := bo_71.cell0
            have bo_v71 := bo_71.cell1
            have bo_w71 := bo_71.cell2
            have bo_x71 := bo_71.cell3
            have bo_y71 := bo_71.cell4
            have bo_z71 := bo_71.cell5
            have bi_u71 := bi_71.cell0
            have bi_v71 := bi_71.cell1
            have bi_w71 := bi_71.cell2
            have bo_f071 := bo_71.frozen 0
            have bo_f171 := bo_71.frozen 1
            have bo_f271 := bo_71.frozen 2
            have bo_f371 := bo_71.frozen 3
            have bo_f471 := bo_71.frozen 4
            have bo_f571 := bo_71.frozen 5
            have ni_hi : wr.heap.size ≠ wx60.heap.size := Ne.symm (Nat.ne_of_lt lt_bi_bo)
            have bi9_hi := bi_71.past3 (u0 := .bool eu.s) (u1 := .slice eu.A eu.n eu.c) (u2 := .slice eu.B eu.m eu.d) ni_hi
            have lo_72 := lo_71.hi3 bo_71 (.bool eu.s) (.slice eu.A eu.n eu.c) (.slice eu.B eu.m eu.d)
            have hi_72 := hi_71.hi3 bo_71 (.bool eu.s) (.slice eu.A eu.n eu.c) (.slice eu.B eu.m eu.d)
            have ee_72 := ee_71.hi3 bo_71 (.bool eu.s) (.slice eu.A eu.n eu.c) (.slice eu.B eu.m eu.d)
            have e0_72 := e0_71.hi3 bo_71 (.bool eu.s) (.slice eu.A eu.n eu.c) (.slice eu.B eu.m eu.d)
            have e1_72 := e1_71.hi3 bo_71 (.bool eu.s) (.slice eu.A eu.n eu.c) (.slice eu.B eu.m eu.d)
            have e2_72 := e2_71.hi3 bo_71 (.bool eu.s) (.slice eu.A eu.n eu.c) (.slice eu.B eu.m eu.d)
            have e3_72 := e3_71.hi3 bo_71 (.bool eu.s) (.slice eu.A eu.n eu.c) (.slice eu.B eu.m eu.d)
            have bo_72 := bo_71.hi3 eu
            have br_72 := br_71.hi9 ne0 (.bool eu.s) (.slice eu.A eu.n eu.c) (.slice eu.B eu.m eu.d)
            have F72 := below_thr F71 gl0 3 4 5 (.bool eu.s) (.slice eu.A eu.n eu.c) (.slice eu.B eu.m eu.d)
            have br_u72 : (((((w71).setCell ⟨wx60.heap.size, 3, none⟩ (.bool eu.s)).setCell ⟨wx60.heap.size, 4, none⟩ (.slice eu.A eu.n eu.c)).setCell ⟨wx60.heap.size, 5, none⟩ (.slice eu.B eu.m eu.d))).cell? ⟨w.heap.size + 2, 0, none⟩ = some (.bool false) := br_72.cell0
            have br_v72 : (((((w71).setCell ⟨wx60.heap.size, 3, none⟩ (.bool eu.s)).setCell ⟨wx60.heap.size, 4, none⟩ (.slice eu.A eu.n eu.c)).setCell ⟨wx60.heap.size, 5, none⟩ (.slice eu.B eu.m eu.d))).cell? ⟨w.heap.size + 2, 1, none⟩ = some (.slice none 0 0) := br_72.cell1
            have br_w72 : (((((w71).setCell ⟨wx60.heap.size, 3, none⟩ (.bool eu.s)).setCell ⟨wx60.heap.size, 4, none⟩ (.slice eu.A eu.n eu.c)).setCell ⟨wx60.heap.size, 5, none⟩ (.slice eu.B eu.m eu.d))).cell? ⟨w.heap.size + 2, 2, none⟩ = some (.slice none 0 0) := br_72.cell2
            have br_x72 : (((((w71).setCell ⟨wx60.heap.size, 3, none⟩ (.bool eu.s)).setCell ⟨wx60.heap.size, 4, none⟩ (.slice eu.A eu.n eu.c)).setCell ⟨wx60.heap.size, 5, none⟩ (.slice eu.B eu.m eu.d))).cell? ⟨w.heap.size + 2, 3, none⟩ = some (.bool false) := br_72.cell3
            have br_y72 : (((((w71).setCell ⟨wx60.heap.size, 3, none⟩ (.bool eu.s)).setCell ⟨wx60.heap.size, 4, none⟩ (.slice eu.A eu.n eu.c)).setCell ⟨wx60.heap.size, 5, none⟩ (.slice eu.B eu.m eu.d))).cell? ⟨w.heap.size + 2, 4, none⟩ = some (.slice none 0 0) := br_72.cell4
            have br_z72 : (((((w71).setCell ⟨wx60.heap.size, 3, none⟩ (.bool eu.s)).setCell ⟨wx60.heap.size, 4, none⟩ (.slice eu.A eu.n eu.c)).setCell ⟨wx60.heap.size, 5, none⟩ (.slice eu.B eu.m eu.d))).cell? ⟨w.heap.size + 2, 5, none⟩ = some (.slice none 0 0) := br_72.cell5
            have bo_u72 := bo_72.cell0
            have bo_v72 := bo_72.cell1
            have bo_w72 := bo_72.cell2
            have bo_x72 := bo_72.cell3
            have bo_y72 := bo_72.cell4
            have bo_z72 := bo_72.cell5
            have bi_u72 := bi9_hi.cell0
            have bi_v72 := bi9_hi.cell1
            have bi_w72 := bi9_hi.cell2
            go_wp2
            go_roundw
            case rel => exact ⟨i + 1, eu, eu, _, _, by omega, rfl, br_72, bo_72, ee_72, ee_72, e0_72, e1_72, e2_72, e3_72, F72, hide ⟨HM1.out.symm.trans (by rw [HR.out.1]; exact HN.out.1.symm), HM2.out.symm.trans (by rw [HR.out.2.1]; exact HN.out.2.symm), se, se⟩⟩
            case measure => simp only [intOf]; omega
          · have HM2 := hide (mx_f (x := y9) (P := Pe) (by rw [hr2]; exact e2))
            clear hr1 hr2
            have br_u72 : (wr).cell? ⟨w.heap.size + 2, 0, none⟩ = some (.bool false) := Hb.cell0
            have br_v72 : (wr).cell? ⟨w.heap.size + 2, 1, none⟩ = some (.slice none 0 0) := Hb.cell1
            have br_w72 : (wr).cell? ⟨w.heap.size + 2, 2, none⟩ = some (.slice none 0 0) := Hb.cell2
            have br_x72 : (wr).cell? ⟨w.heap.size + 2, 3, none⟩ = some (.bool false) := Hb.cell3
            have br_y72 : (wr).cell? ⟨w.heap.size + 2, 4, none⟩ = some (.slice none 0 0) := Hb.cell4
            have br_z72 : (wr).cell? ⟨w.heap.size + 2, 5, none⟩ = some (.slice none 0 0) := Hb.cell5
            have bo_u72 := Ho.cell0
            have bo_v72 := Ho.cell1
            have bo_w72 := Ho.cell2
            have bo_x72 := Ho.cell3
            have bo_y72 := Ho.cell4
            have bo_z72 := Ho.cell5
            have lt_bi_br := Hb.lt
            have lt_bi_bo := Ho.lt
            have lo_73 := Klo.alloc (EU eu)
            have hi_73 := Khi.alloc (EU eu)
            have ee_73 := Ee.alloc (EU eu)
            have e0_73 := E0.alloc (EU eu)
            have e1_73 := E1.alloc (EU eu)
            have e2_73 := E2.alloc (EU eu)
            have e3_73 := E3.alloc (EU eu)
            have br_73 := Hb.alloc (EU eu)
            have bo_73 := Ho.alloc (EU eu)
            have bi_73 : Su ((wr).alloc (EU eu)) (wr.heap.size) eu := by have h_ := Su.new (wr) eu; exact h_
            have F73 := FB.alloc FB.size (EU eu)
            have br_u73 : ((wr).alloc (EU eu)).cell? ⟨w.heap.size + 2, 0, none⟩ = some (.bool false) := br_73.cell0
            have br_v73 : ((wr).alloc (EU eu)).cell? ⟨w.heap.size + 2, 1, none⟩ = some (.slice none 0 0) := br_73.cell1
            have br_w73 : ((wr).alloc (EU eu)).cell? ⟨w.heap.size + 2, 2, none⟩ = some (.slice none 0 0) := br_73.cell2
            have br_x73 : ((wr).alloc (EU eu)).cell? ⟨w.heap.size + 2, 3, none⟩ = some (.bool false) := br_73.cell3
            have br_y73 : ((wr).alloc (EU eu)).cell? ⟨w.heap.size + 2, 4, none⟩ = some (.slice none 0 0) := br_73.cell4
            have br_z73 : ((wr).alloc (EU eu)).cell? ⟨w.heap.size + 2, 5, none⟩ = some (.slice none 0 0) := br_73.cell5
            have bo_u73 := bo_73.cell0
            have bo_v73 := bo_73.cell1
            have bo_w73 := bo_73.cell2
            have bo_x73 := bo_73.cell3
            have bo_y73 := bo_73.cell4
            have bo_z73 := bo_73.cell5
            have bi_u73 := bi_73.cell0
            have bi_v73 := bi_73.cell1
            have bi_w73 := bi_73.cell2
            go_wp2_with fail
            refine (pcmp_u _ _ Pe x9 r1 _ HR1.out ee_73.iu lo_73.iu lee llo).mono ?_
            rintro e w74 ⟨rfl, b74⟩
            have lo_74 := lo_73.below b74
            have hi_74 := hi_73.below b74
            have ee_74 := ee_73.below b74
            have e0_74 := e0_73.below b74
            have e1_74 := e1_73.below b74
            have e2_74 := e2_73.below b74
            have e3_74 := e3_73.below b74
            have br_74 := br_73.below b74 br_73.lt
            have bo_74 := bo_73.below b74 bo_73.lt
            have bi_74 := bi_73.below b74 bi_73.lt
            have F74 := below_then F73 (Nat.le_refl _) b74
            have br_u74 : (w74).cell? ⟨w.heap.size + 2, 0, none⟩ = some (.bool false) := br_74.cell0
            have br_v74 : (w74).cell? ⟨w.heap.size + 2, 1, none⟩ = some (.slice none 0 0) := br_74.cell1
            have br_w74 : (w74).cell? ⟨w.heap.size + 2, 2, none⟩ = some (.slice none 0 0) := br_74.cell2
            have br_x74 : (w74).cell? ⟨w.heap.size + 2, 3, none⟩ = some (.bool false) := br_74.cell3
            have br_y74 : (w74).cell? ⟨w.heap.size + 2, 4, none⟩ = some (.slice none 0 0) := br_74.cell4
            have br_z74 : (w74).cell? ⟨w.heap.size + 2, 5, none⟩ = some (.slice none 0 0) := br_74.cell5
            have bo_u74 := bo_74.cell0
            have bo_v74 := bo_74.cell1
            have bo_w74 := bo_74.cell2
            have bo_x74 := bo_74.cell3
            have bo_y74 := bo_74.cell4
            have bo_z74 := bo_74.cell5
            have bi_u74 := bi_74.cell0
            have bi_v74 := bi_74.cell1
            have bi_w74 := bi_74.cell2
            have bo_f074 := bo_74.frozen 0
            have bo_f174 := bo_74.frozen 1
            have bo_f274 := bo_74.frozen 2
            have bo_f374 := bo_74.frozen 3
            have bo_f474 := bo_74.frozen 4
            have bo_f574 := bo_74.frozen 5
            have ni_lo : wr.heap.size ≠ wx60.heap.size := Ne.symm (Nat.ne_of_lt lt_bi_bo)
            have bi9_lo := bi_74.past3 (u0 := .bool eu.s) (u1 := .slice eu.A eu.n eu.c) (u2 := .slice eu.B eu.m eu.d) ni_lo
            have lo_75 := lo_74.lo3 bo_74 (.bool eu.s) (.slice eu.A eu.n eu.c) (.slice eu.B eu.m eu.d)
            have hi_75 := hi_74.lo3 bo_74 (.bool eu.s) (.slice eu.A eu.n eu.c) (.slice eu.B eu.m eu.d)
            have ee_75 := ee_74.lo3 bo_74 (.bool eu.s) (.slice eu.A eu.n eu.c) (.slice eu.B eu.m eu.d)
            have e0_75 := e0_74.lo3 bo_74 (.bool eu.s) (.slice eu.A eu.n eu.c) (.slice eu.B eu.m eu.d)
            have e1_75 := e1_74.lo3 bo_74 (.bool eu.s) (.slice eu.A eu.n eu.c) (.slice eu.B eu.m eu.d)
            have e2_75 := e2_74.lo3 bo_74 (.bool eu.s) (.slice eu.A eu.n eu.c) (.slice eu.B eu.m eu.d)
            have e3_75 := e3_74.lo3 bo_74 (.bool eu.s) (.slice eu.A eu.n eu.c) (.slice eu.B eu.m eu.d)
            have bo_75 := bo_74.lo3 eu
            have br_75 := br_74.lo9 ne0 (.bool eu.s) (.slice eu.A eu.n eu.c) (.slice eu.B eu.m eu.d)
            have F75 := below_thr F74 gl0 0 1 2 (.bool eu.s) (.slice eu.A eu.n eu.c) (.slice eu.B eu.m eu.d)
            have br_u75 : (((((w74).setCell ⟨wx60.heap.size, 0, none⟩ (.bool eu.s)).setCell ⟨wx60.heap.size, 1, none⟩ (.slice eu.A eu.n eu.c)).setCell ⟨wx60.heap.size, 2, none⟩ (.slice eu.B eu.m eu.d))).cell? ⟨w.heap.size + 2, 0, none⟩ = some (.bool false) := br_75.cell0
            have br_v75 : (((((w74).setCell ⟨wx60.heap.size, 0, none⟩ (.bool eu.s)).setCell ⟨wx60.heap.size, 1, none⟩ (.slice eu.A eu.n eu.c)).setCell ⟨wx60.heap.size, 2, none⟩ (.slice eu.B eu.m eu.d))).cell? ⟨w.heap.size + 2, 1, none⟩ = some (.slice none 0 0) := br_75.cell1
            have br_w75 : (((((w74).setCell ⟨wx60.heap.size, 0, none⟩ (.bool eu.s)).setCell ⟨wx60.heap.size, 1, none⟩ (.slice eu.A eu.n eu.c)).setCell ⟨wx60.heap.size, 2, none⟩ (.slice eu.B eu.m eu.d))).cell? ⟨w.heap.size + 2, 2, none⟩ = some (.slice none 0 0) := br_75.cell2
            have br_x75 : (((((w74).setCell ⟨wx60.heap.size, 0, none⟩ (.bool eu.s)).setCell ⟨wx60.heap.size, 1, none⟩ (.slice eu.A eu.n eu.c)).setCell ⟨wx60.heap.size, 2, none⟩ (.slice eu.B eu.m eu.d))).cell? ⟨w.heap.size + 2, 3, none⟩ = some (.bool false) := br_75.cell3
            have br_y75 : (((((w74).setCell ⟨wx60.heap.size, 0, none⟩ (.bool eu.s)).setCell ⟨wx60.heap.size, 1, none⟩ (.slice eu.A eu.n eu.c)).setCell ⟨wx60.heap.size, 2, none⟩ (.slice eu.B eu.m eu.d))).cell? ⟨w.heap.size + 2, 4, none⟩ = some (.slice none 0 0) := br_75.cell4
            have br_z75 : (((((w74).setCell ⟨wx60.heap.size, 0, none⟩ (.bool eu.s)).setCell ⟨wx60.heap.size, 1, none⟩ (.slice eu.A eu.n eu.c)).setCell ⟨wx60.heap.size, 2, none⟩ (.slice eu.B eu.m eu.d))).cell? ⟨w.heap.size + 2, 5, none⟩ = some (.slice none 0 0) := br_75.cell5
            have bo_u75 := bo_75.cell0
            have bo_v75 := bo_75.cell1
            have bo_w75 := bo_75.cell2
            have bo_x75 := bo_75.cell3
            have bo_y75 := bo_75.cell4
            have bo_z75 := bo_75.cell5
            have bi_u75 := bi9_lo.cell0
            have bi_v75 := bi9_lo.cell1
            have bi_w75 := bi9_lo.cell2
            go_wp2_with fail
            refine (pcmp_u _ _ Pe y9 r2 _ HR2.out ee_75.iu hi_75.iu lee lhi).mono ?_
            rintro e w76 ⟨rfl, b76⟩
            have lo_76 := lo_75.below b76
            have hi_76 := hi_75.below b76
            have ee_76 := ee_75.below b76
            have e0_76 := e0_75.below b76
            have e1_76 := e1_75.below b76
            have e2_76 := e2_75.below b76
            have e3_76 := e3_75.below b76
            have br_76 := br_75.below b76 br_75.lt
            have bo_76 := bo_75.below b76 bo_75.lt
            have bi_76 := bi9_lo.below b76 bi9_lo.lt
            have F76 := below_then F75 (Nat.le_refl _) b76
            have br_u76 : (w76).cell? ⟨w.heap.size + 2, 0, none⟩ = some (.bool false) := br_76.cell0
            have br_v76 : (w76).cell? ⟨w.heap.size + 2, 1, none⟩ = some (.slice none 0 0) := br_76.cell1
            have br_w76 : (w76).cell? ⟨w.heap.size + 2, 2, none⟩ = some (.slice none 0 0) := br_76.cell2
            have br_x76 : (w76).cell? ⟨w.heap.size + 2, 3, none⟩ = some (.bool false) := br_76.cell3
            have br_y76 : (w76).cell? ⟨w.heap.size + 2, 4, none⟩ = some (.slice none 0 0) := br_76.cell4
            have br_z76 : (w76).cell? ⟨w.heap.size + 2, 5, none⟩ = some (.slice none 0 0) := br_76.cell5
            have bo_u76 := bo_76.cell0
            have bo_v76 := bo_76.cell1
            have bo_w76 := bo_76.cell2
            have bo_x76 := bo_76.cell3
            have bo_y76 := bo_76.cell4
            have bo_z76 := bo_76.cell5
            have bi_u76 := bi_76.cell0
            have bi_v76 := bi_76.cell1
            have bi_w76 := bi_76.cell2
            go_wp2
            go_roundw
            case rel => exact ⟨i + 1, eu, hi, _, _, by omega, rfl, br_76, bo_76, ee_76, hi_76, e0_76, e1_76, e2_76, e3_76, F76, hide ⟨HM1.out.symm.trans (by rw [HR.out.1]; exact HN.out.1.symm), HM2.out.symm.trans (by rw [HR.out.2.1]; exact HN.out.2.symm), se, HR.out.2.2.2⟩⟩
            case measure => simp only [intOf]; omega
        · have HM1 := hide (mn_f (x := x9) (P := Pe) (by rw [hr1]; exact e1))
          rcases Bool.eq_false_or_eq_true (decide (0 < r2)) with e2 | e2
          · have HM2 := hide (mx_t (x := y9) (P := Pe) (by rw [hr2]; exact e2))
            clear hr1 hr2
            have br_u76 : (wr).cell? ⟨w.heap.size + 2, 0, none⟩ = some (.bool false) := Hb.cell0
            have br_v76 : (wr).cell? ⟨w.heap.size + 2, 1, none⟩ = some (.slice none 0 0) := Hb.cell1
            have br_w76 : (wr).cell? ⟨w.heap.size + 2, 2, none⟩ = some (.slice none 0 0) := Hb.cell2
            have br_x76 : (wr).cell? ⟨w.heap.size + 2, 3, none⟩ = some (.bool false) := Hb.cell3
            have br_y76 : (wr).cell? ⟨w.heap.size + 2, 4, none⟩ = some (.slice none 0 0) := Hb.cell4
            have br_z76 : (wr).cell? ⟨w.heap.size + 2, 5, none⟩ = some (.slice none 0 0) := Hb.cell5
            have bo_u76 := Ho.cell0
            have bo_v76 := Ho.cell1
            have bo_w76 := Ho.cell2
            have bo_x76 := Ho.cell3
            have bo_y76 := Ho.cell4
            have bo_z76 := Ho.cell5
            have lt_bi_br := Hb.lt
            have lt_bi_bo := Ho.lt
            have lo_77 := Klo.alloc (EU eu)
            have hi_77 := Khi.alloc (EU eu)
            have ee_77 := Ee.alloc (EU eu)
            have e0_77 := E0.alloc (EU eu)
            have e1_77 := E1.alloc (EU eu)
            have e2_77 := E2.alloc (EU eu)
            have e3_77 := E3.alloc (EU eu)
            have br_77 := Hb.alloc (EU eu)
            have bo_77 := Ho.alloc (EU eu)
            have bi_77 : Su ((wr).alloc (EU eu)) (wr.heap.size) eu := by have h_ := Su.new (wr) eu; exact h_
            have F77 := FB.alloc FB.size (EU eu)
            have br_u77 : ((wr).alloc (EU eu)).cell? ⟨w.heap.size + 2, 0, none⟩ = some (.bool false) := br_77.cell0
            have br_v77 : ((wr).alloc (EU eu)).cell? ⟨w.heap.size + 2, 1, none⟩ = some (.slice none 0 0) := br_77.cell1
            have br_w77 : ((wr).alloc (EU eu)).cell? ⟨w.heap.size + 2, 2, none⟩ = some (.slice none 0 0) := br_77.cell2
            have br_x77 : ((wr).alloc (EU eu)).cell? ⟨w.heap.size + 2, 3, none⟩ = some (.bool false) := br_77.cell3
            have br_y77 : ((wr).alloc (EU eu)).cell? ⟨w.heap.size + 2, 4, none⟩ = some (.slice none 0 0) := br_77.cell4
            have br_z77 : ((wr).alloc (EU eu)).cell? ⟨w.heap.size + 2, 5, none⟩ = some (.slice none 0 0) := br_77.cell5
            have bo_u77 := bo_77.cell0
            have bo_v77 := bo_77.cell1
            have bo_w77 := bo_77.cell2
            have bo_x77 := bo_77.cell3
            have bo_y77 := bo_77.cell4
            have bo_z77 := bo_77.cell5
            have bi_u77 := bi_77.cell0
            have bi_v77 := bi_77.cell1
            have bi_w77 := bi_77.cell2
            go_wp2_with fail
            refine (pcmp_u _ _ Pe x9 r1 _ HR1.out ee_77.iu lo_77.iu lee llo).mono ?_
            rintro e w78 ⟨rfl, b78⟩
            have lo_78 := lo_77.below b78
            have hi_78 := hi_77.below b78
            have ee_78 := ee_77.below b78
            have e0_78 := e0_77.below b78
            have e1_78 := e1_77.below b78
            have e2_78 := e2_77.below b78
            have e3_78 := e3_77.below b78
            have br_78 := br_77.below b78 br_77.lt
            have bo_78 := bo_77.below b78 bo_77.lt
            have bi_78 := bi_77.below b78 bi_77.lt
            have F78 := below_then F77 (Nat.le_refl _) b78
            have br_u78 : (w78).cell? ⟨w.heap.size + 2, 0, none⟩ = some (.bool false) := br_78.cell0
            have br_v78 : (w78).cell? ⟨w.heap.size + 2, 1, none⟩ = some (.slice none 0 0) := br_78.cell1
            have br_w78 : (w78).cell? ⟨w.heap.size + 2, 2, none⟩ = some (.slice none 0 0) := br_78.cell2
            have br_x78 : (w78).cell? ⟨w.heap.size + 2, 3, none⟩ = some (.bool false) := br_78.cell3
            have br_y78 : (w78).cell? ⟨w.heap.size + 2, 4, none⟩ = some (.slice none 0 0) := br_78.cell4
            have br_z78 : (w78).cell? ⟨w.heap.size + 2, 5, none⟩ = some (.slice none 0 0) := br_78.cell5
            have bo_u78 := bo_78.cell0
            have bo_v78 := bo_78.cell1
            have bo_w78 := bo_78.cell2
            have bo_x78 := bo_78.cell3
            have bo_y78 := bo_78.cell4
            have bo_z78 := bo_78.cell5
            have bi_u78 := bi_78.cell0
            have bi_v78 := bi_78.cell1
            have bi_w78 := bi_78.cell2
            go_wp2_with fail
            refine (pcmp_u _ _ Pe y9 r2 _ HR2.out ee_78.iu hi_78.iu lee lhi).mono ?_
            rintro e w79 ⟨rfl, b79⟩
            have lo_79 := lo_78.below b79
            have hi_79 := hi_78.below b79
            have ee_79 := ee_78.below b79
            have e0_79 := e0_78.below b79
            have e1_79 := e1_78.below b79
            have e2_79 := e2_78.below b79
            have e3_79 := e3_78.below b79
            have br_79 := br_78.below b79 br_78.lt
            have bo_79 := bo_78.below b79 bo_78.lt
            have bi_79 := bi_78.below b79 bi_78.lt
            have F79 := below_then F78 (Nat.le_refl _) b79
            have br_u79 : (w79).cell? ⟨w.heap.size + 2, 0, none⟩ = some (.bool false) := br_79.cell0
            have br_v79 : (w79).cell? ⟨w.heap.size + 2, 1, none⟩ = some (.slice none 0 0) := br_79.cell1
            have br_w79 : (w79).cell? ⟨w.heap.size + 2, 2, none⟩ = some (.slice none 0 0) := br_79.cell2
            have br_x79 : (w79).cell? ⟨w.heap.size + 2, 3, none⟩ = some (.bool false) := br_79.cell3
            have br_y79 : (w79).cell? ⟨w.heap.size + 2, 4, none⟩ = some (.slice none 0 0) := br_79.cell4
            have br_z79 : (w79).cell? ⟨w.heap.size + 2, 5, none⟩ = some (.slice none 0 0) := br_79.cell5
            have bo_u79 := bo_79.cell0
            have bo_v79 := bo_79.cell1
            have bo_w79 := bo_79.cell2
            have bo_x79 := bo_79.cell3
            have bo_y79 := bo_79.cell4
            have bo_z79 := bo_79.cell5
            have bi_u79 := bi_79.cell0
            have bi_v79 := bi_79.cell1
            have bi_w79 := bi_79.cell2
            have bo_f079 := bo_79.frozen 0
            have bo_f179 := bo_79.frozen 1
            have bo_f279 := bo_79.frozen 2
            have bo_f379 := bo_79.frozen 3
            have bo_f479 := bo_79.frozen 4
            have bo_f579 := bo_79.frozen 5
            have ni_hi : wr.heap.size ≠ wx60.heap.size := Ne.symm (Nat.ne_of_lt lt_bi_bo)
            have bi9_hi := bi_79.past3 (u0 := .bool eu.s) (u1 := .slice eu.A eu.n eu.c) (u2 := .slice eu.B eu.m eu.d) ni_hi
            have lo_80 := lo_79.hi3 bo_79 (.bool eu.s) (.slice eu.A eu.n eu.c) (.slice eu.B eu.m eu.d)
            have hi_80 := hi_79.hi3 bo_79 (.bool eu.s) (.slice eu.A eu.n eu.c) (.slice eu.B eu.m eu.d)
            have ee_80 := ee_79.hi3 bo_79 (.bool eu.s) (.slice eu.A eu.n eu.c) (.slice eu.B eu.m eu.d)
            have e0_80 := e0_79.hi3 bo_79 (.bool eu.s) (.slice eu.A eu.n eu.c) (.slice eu.B eu.m eu.d)
            have e1_80 := e1_79.hi3 bo_79 (.bool eu.s) (.slice eu.A eu.n eu.c) (.slice eu.B eu.m eu.d)
            have e2_80 := e2_79.hi3 bo_79 (.bool eu.s) (.slice eu.A eu.n eu.c) (.slice eu.B eu.m eu.d)
            have e3_80 := e3_79.hi3 bo_79 (.bool eu.s) (.slice eu.A eu.n eu.c) (.slice eu.B eu.m eu.d)
            have bo_80 := bo_79.hi3 eu
            have br_80 := br_79.hi9 ne0 (.bool eu.s) (.slice eu.A eu.n eu.c) (.slice eu.B eu.m eu.d)
            have F80 := below_thr F79 gl0 3 4 5 (.bool eu.s) (.slice eu.A eu.n eu.c) (.slice eu.B eu.m eu.d)
            have br_u80 : (((((w79).setCell ⟨wx60.heap.size, 3, none⟩ (.bool eu.s)).setCell ⟨wx60.heap.size, 4, none⟩ (.slice eu.A eu.n eu.c)).setCell ⟨wx60.heap.size, 5, none⟩ (.slice eu.B eu.m eu.d))).cell? ⟨w.heap.size + 2, 0, none⟩ = some (.bool false) := br_80.cell0
            have br_v80 : (((((w79).setCell ⟨wx60.heap.size, 3, none⟩ (.bool eu.s)).setCell ⟨wx60.heap.size, 4, none⟩ (.slice eu.A eu.n eu.c)).setCell ⟨wx60.heap.size, 5, none⟩ (.slice eu.B eu.m eu.d))).cell? ⟨w.heap.size + 2, 1, none⟩ = some (.slice none 0 0) := br_80.cell1
            have br_w80 : (((((w79).setCell ⟨wx60.heap.size, 3, none⟩ (.bool eu.s)).setCell ⟨wx60.heap.size, 4, none⟩ (.slice eu.A eu.n eu.c)).setCell ⟨wx60.heap.size, 5, none⟩ (.slice eu.B eu.m eu.d))).cell? ⟨w.heap.size + 2, 2, none⟩ = some (.slice none 0 0) := br_80.cell2
            have br_x80 : (((((w79).setCell ⟨wx60.heap.size, 3, none⟩ (.bool eu.s)).setCell ⟨wx60.heap.size, 4, none⟩ (.slice eu.A eu.n eu.c)).setCell ⟨wx60.heap.size, 5, none⟩ (.slice eu.B eu.m eu.d))).cell? ⟨w.heap.size + 2, 3, none⟩ = some (.bool false) := br_80.cell3
            have br_y80 : (((((w79).setCell ⟨wx60.heap.size, 3, none⟩ (.bool eu.s)).setCell ⟨wx60.heap.size, 4, none⟩ (.slice eu.A eu.n eu.c)).setCell ⟨wx60.heap.size, 5, none⟩ (.slice eu.B eu.m eu.d))).cell? ⟨w.heap.size + 2, 4, none⟩ = some (.slice none 0 0) := br_80.cell4
            have br_z80 : (((((w79).setCell ⟨wx60.heap.size, 3, none⟩ (.bool eu.s)).setCell ⟨wx60.heap.size, 4, none⟩ (.slice eu.A eu.n eu.c)).setCell ⟨wx60.heap.size, 5, none⟩ (.slice eu.B eu.m eu.d))).cell? ⟨w.heap.size + 2, 5, none⟩ = some (.slice none 0 0) := br_80.cell5
            have bo_u80 := bo_80.cell0
            have bo_v80 := bo_80.cell1
            have bo_w80 := bo_80.cell2
            have bo_x80 := bo_80.cell3
            have bo_y80 := bo_80.cell4
            have bo_z80 := bo_80.cell5
            have bi_u80 := bi9_hi.cell0
            have bi_v80 := bi9_hi.cell1
            have bi_w80 := bi9_hi.cell2
            go_wp2
            go_roundw
            case rel => exact ⟨i + 1, lo, eu, _, _, by omega, rfl, br_80, bo_80, lo_80, ee_80, e0_80, e1_80, e2_80, e3_80, F80, hide ⟨HM1.out.symm.trans (by rw [HR.out.1]; exact HN.out.1.symm), HM2.out.symm.trans (by rw [HR.out.2.1]; exact HN.out.2.symm), HR.out.2.2.1, se⟩⟩
            case measure => simp only [intOf]; omega
          · have HM2 := hide (mx_f (x := y9) (P := Pe) (by rw [hr2]; exact e2))
            clear hr1 hr2
            have br_u80 : (wr).cell? ⟨w.heap.size + 2, 0, none⟩ = some (.bool false) := Hb.cell0
            have br_v80 : (wr).cell? ⟨w.heap.size + 2, 1, none⟩ = some (.slice none 0 0) := Hb.cell1
            have br_w80 : (wr).cell? ⟨w.heap.size + 2, 2, none⟩ = some (.slice none 0 0) := Hb.cell2
            have br_x80 : (wr).cell? ⟨w.heap.size + 2, 3, none⟩ = some (.bool false) := Hb.cell3
            have br_y80 : (wr).cell? ⟨w.heap.size + 2, 4, none⟩ = some (.slice none 0 0) := Hb.cell4
            have br_z80 : (wr).cell? ⟨w.heap.size + 2, 5, none⟩ = some (.slice none 0 0) := Hb.cell5
            have bo_u80 := Ho.cell0
            have bo_v80 := Ho.cell1
            have bo_w80 := Ho.cell2
            have bo_x80 := Ho.cell3
            have bo_y80 := Ho.cell4
            have bo_z80 := Ho.cell5
            have lt_bi_br := Hb.lt
            have lt_bi_bo := Ho.lt
            have lo_81 := Klo.alloc (EU eu)
            have hi_81 := Khi.alloc (EU eu)
            have ee_81 := Ee.alloc (EU eu)
            have e0_81 := E0.alloc (EU eu)
            have e1_81 := E1.alloc (EU eu)
            have e2_81 := E2.alloc (EU eu)
            have e3_81 := E3.alloc (EU eu)
            have br_81 := Hb.alloc (EU eu)
            have bo_81 := Ho.alloc (EU eu)
            have bi_81 : Su ((wr).alloc (EU eu)) (wr.heap.size) eu := by have h_ := Su.new (wr) eu; exact h_
            have F81 := FB.alloc FB.size (EU eu)
            have br_u81 : ((wr).alloc (EU eu)).cell? ⟨w.heap.size + 2, 0, none⟩ = some (.bool false) := br_81.cell0
            have br_v81 : ((wr).alloc (EU eu)).cell? ⟨w.heap.size + 2, 1, none⟩ = some (.slice none 0 0) := br_81.cell1
            have br_w81 : ((wr).alloc (EU eu)).cell? ⟨w.heap.size + 2, 2, none⟩ = some (.slice none 0 0) := br_81.cell2
            have br_x81 : ((wr).alloc (EU eu)).cell? ⟨w.heap.size + 2, 3, none⟩ = some (.bool false) := br_81.cell3
            have br_y81 : ((wr).alloc (EU eu)).cell? ⟨w.heap.size + 2, 4, none⟩ = some (.slice none 0 0) := br_81.cell4
            have br_z81 : ((wr).alloc (EU eu)).cell? ⟨w.heap.size + 2, 5, none⟩ = some (.slice none 0 0) := br_81.cell5
            have bo_u81 := bo_81.cell0
            have bo_v81 := bo_81.cell1
            have bo_w81 := bo_81.cell2
            have bo_x81 := bo_81.cell3
            have bo_y81 := bo_81.cell4
            have bo_z81 := bo_81.cell5
            have bi_u81 := bi_81.cell0
            have bi_v81 := bi_81.cell1
            have bi_w81 := bi_81.cell2
            go_wp2_with fail
            refine (pcmp_u _ _ Pe x9 r1 _ HR1.out ee_81.iu lo_81.iu lee llo).mono ?_
            rintro e w82 ⟨rfl, b82⟩
            have lo_82 := lo_81.below b82
            have hi_82 := hi_81.below b82
            have ee_82 := ee_81.below b82
            have e0_82 := e0_81.below b82
            have e1_82 := e1_81.below b82
            have e2_82 := e2_81.below b82
            have e3_82 := e3_81.below b82
            have br_82 := br_81.below b82 br_81.lt
            have bo_82 := bo_81.below b82 bo_81.lt
            have bi_82 := bi_81.below b82 bi_81.lt
            have F82 := below_then F81 (Nat.le_refl _) b82
            have br_u82 : (w82).cell? ⟨w.heap.size + 2, 0, none⟩ = some (.bool false) := br_82.cell0
            have br_v82 : (w82).cell? ⟨w.heap.size + 2, 1, none⟩ = some (.slice none 0 0) := br_82.cell1
            have br_w82 : (w82).cell? ⟨w.heap.size + 2, 2, none⟩ = some (.slice none 0 0) := br_82.cell2
            have br_x82 : (w82).cell? ⟨w.heap.size + 2, 3, none⟩ = some (.bool false) := br_82.cell3
            have br_y82 : (w82).cell? ⟨w.heap.size + 2, 4, none⟩ = some (.slice none 0 0) := br_82.cell4
            have br_z82 : (w82).cell? ⟨w.heap.size + 2, 5, none⟩ = some (.slice none 0 0) := br_82.cell5
            have bo_u82 := bo_82.cell0
            have bo_v82 := bo_82.cell1
            have bo_w82 := bo_82.cell2
            have bo_x82 := bo_82.cell3
            have bo_y82 := bo_82.cell4
            have bo_z82 := bo_82.cell5
            have bi_u82 := bi_82.cell0
            have bi_v82 := bi_82.cell1
            have bi_w82 := bi_82.cell2
            go_wp2_with fail
            refine (pcmp_u _ _ Pe y9 r2 _ HR2.out ee_82.iu hi_82.iu lee lhi).mono ?_
            rintro e w83 ⟨rfl, b83⟩
            have lo_83 := lo_82.below b83
            have hi_83 := hi_82.below b83
            have ee_83 := ee_82.below b83
            have e0_83 := e0_82.below b83
            have e1_83 := e1_82.below b83
            have e2_83 := e2_82.below b83
            have e3_83 := e3_82.below b83
            have br_83 := br_82.below b83 br_82.lt
            have bo_83 := bo_82.below b83 bo_82.lt
            have bi_83 := bi_82.below b83 bi_82.lt
            have F83 := below_then F82 (Nat.le_refl _) b83
            have br_u83 : (w83).cell? ⟨w.heap.size + 2, 0, none⟩ = some (.bool false) := br_83.cell0
            have br_v83 : (w83).cell? ⟨w.heap.size + 2, 1, none⟩ = some (.slice none 0 0) := br_83.cell1
            have br_w83 : (w83).cell? ⟨w.heap.size + 2, 2, none⟩ = some (.slice none 0 0) := br_83.cell2
            have br_x83 : (w83).cell? ⟨w.heap.size + 2, 3, none⟩ = some (.bool false) := br_83.cell3
            have br_y83 : (w83).cell? ⟨w.heap.size + 2, 4, none⟩ = some (.slice none 0 0) := br_83.cell4
            have br_z83 : (w83).cell? ⟨w.heap.size + 2, 5, none⟩ = some (.slice none 0 0) := br_83.cell5
            have bo_u83 := bo_83.cell0
            have bo_v83 := bo_83.cell1
            have bo_w83 := bo_83.cell2
            have bo_x83 := bo_83.cell3
            have bo_y83 := bo_83.cell4
            have bo_z83 := bo_83.cell5
            have bi_u83 := bi_83.cell0
            have bi_v83 := bi_83.cell1
            have bi_w83 := bi_83.cell2
            go_wp2
            go_roundw
            case rel => exact ⟨i + 1, lo, hi, _, _, by omega, rfl, br_83, bo_83, lo_83, hi_83, e0_83, e1_83, e2_83, e3_83, F83, hide ⟨HM1.out.symm.trans (by rw [HR.out.1]; exact HN.out.1.symm), HM2.out.symm.trans (by rw [HR.out.2.1]; exact HN.out.2.symm), HR.out.2.2.1, HR.out.2.2.2⟩⟩
            case measure => simp only [intOf]; omega
      · obtain rfl : i = 4 := by omega
        obtain rfl := HR.out.1
        obtain rfl := HR.out.2.1
        have br_u83 : (wr).cell? ⟨w.heap.size + 2, 0, none⟩ = some (.bool false) := Hb.cell0
        have br_v83 : (wr).cell? ⟨w.heap.size + 2, 1, none⟩ = some (.slice none 0 0) := Hb.cell1
        have br_w83 : (wr).cell? ⟨w.heap.size + 2, 2, none⟩ = some (.slice none 0 0) := Hb.cell2
        have br_x83 : (wr).cell? ⟨w.heap.size + 2, 3, none⟩ = some (.bool false) := Hb.cell3
        have br_y83 : (wr).cell? ⟨w.heap.size + 2, 4, none⟩ = some (.slice none 0 0) := Hb.cell4
        have br_z83 : (wr).cell? ⟨w.heap.size + 2, 5, none⟩ = some (.slice none 0 0) := Hb.cell5
        have bo_u83 := Ho.cell0
        have bo_v83 := Ho.cell1
        have bo_w83 := Ho.cell2
        have bo_x83 := Ho.cell3
        have bo_y83 := Ho.cell4
        have bo_z83 := Ho.cell5
        have br_f083 := Hb.frozen 0
        have br_f183 := Hb.frozen 1
        have br_f283 := Hb.frozen 2
        have br_f383 := Hb.frozen 3
        have br_f483 := Hb.frozen 4
        have br_f583 := Hb.frozen 5
        go_wp2_with fail
        refine bodyPost_ret (v := .agg #[.bool lo.s, .slice lo.A lo.n lo.c, .slice lo.B lo.m lo.d, .bool hi.s, .slice hi.A hi.n hi.c, .slice hi.B hi.m hi.d]) (by simp [results, Tryz.results12, go_sem, (Sv.stor Hb lo hi).cell0, (Sv.stor Hb lo hi).cell1, (Sv.stor Hb lo hi).cell2, (Sv.stor Hb lo hi).cell3, (Sv.stor Hb lo hi).cell4, (Sv.stor Hb lo hi).cell5]) rfl (gv_end FB (by omega) Hb Klo Khi)
end Go.Proofs.YtnddhohjfjlaiaaGreatDoor
