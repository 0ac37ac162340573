/-
  A walk of stage 3.
-/
import Derived.Test.YtabgniijlofapaaL0
import Derived.Deep.DeepCutAuto
import Derived.Deep.CutBlock
namespace Go.Proofs.Ytabgniijlofapaa
open Go.RowKit
set_option linter.unusedVariables false
set_option linter.unusedSimpArgs false

theorem Cq.tiny6 {w : World} {s : Bool} {A B : Option Addr} {n c m d k : Nat} {q : Rat} (h : Cq w s A n c B m d q) (hs : Qs k q) (hk : k ≤ 16384) : n ≤ 16384 ∧ m ≤ 16384 := ⟨Nat.le_trans (h.ln hs.1) hk, Nat.le_trans (h.ld hs.2) hk⟩
theorem lmake_long (s t : Bool) (A B : Option Addr) (n c m d : Nat) (k : Int) (w : World) (hn : ¬ (n ≤ 3 ∧ m ≤ 3)) :
    Calls Try.prog 4 #[.agg #[.bool s, .slice A n c], .agg #[.bool t, .slice B m d], .int .i64 k] w fun e w' => e = .returned (.bool true) ∧ Below w.heap.size w w' := by
  by_cases h1 : n ≤ 3
  · have d1 : decide ((3 : Int) < (n : Int)) = false := by simp; omega
    have d2 : decide ((3 : Int) < (m : Int)) = true := by simp; omega
    clear hn h1
    have ba_1 : Sb ((w).alloc (EI s A n c)) (w.heap.size) (.bool s) (.slice A n c) := by have h_ := Sb.new (w) (.bool s) (.slice A n c); exact h_
    have F1 := (Below.refl w.heap.size w).alloc (Nat.le_refl _) (EI s A n c)
    have ba_2 := ba_1.alloc (EI t B m d)
    have bb_2 : Sb (((w).alloc (EI s A n c)).alloc (EI t B m d)) (w.heap.size + 1) (.bool t) (.slice B m d) := by have h_ := Sb.new ((w).alloc (EI s A n c)) (.bool t) (.slice B m d); simp only [World.size_alloc] at h_; exact h_
    have F2 := F1.alloc F1.size (EI t B m d)
    go_enter Try.func4, Try.ntmps4
    go_wp2_with fail
    refine (awake_q _).mono ?_
    rintro e w3 ⟨rfl, b3⟩
    have ba_3 := ba_2.below b3 ba_2.lt
    have bb_3 := bb_2.below b3 bb_2.lt
    have F3 := below_then F2 (Nat.le_refl _) b3
    have ba_u3 := ba_3.cell0
    have ba_v3 := ba_3.cell1
    have bb_u3 := bb_3.cell0
    have bb_v3 := bb_3.cell1
    go_wp2
    go_ret
    exact ⟨rfl, F3⟩
  · have d1 : decide ((3 : Int) < (n : Int)) = true := by simp; omega
    clear hn h1
    have ba_1 : Sb ((w).alloc (EI s A n c)) (w.heap.size) (.bool s) (.slice A n c) := by have h_ := Sb.new (w) (.bool s) (.slice A n c); exact h_
    have F1 := (Below.refl w.heap.size w).alloc (Nat.le_refl _) (EI s A n c)
    have ba_2 := ba_1.alloc (EI t B m d)
    have bb_2 : Sb (((w).alloc (EI s A n c)).alloc (EI t B m d)) (w.heap.size + 1) (.bool t) (.slice B m d) := by have h_ := Sb.new ((w).alloc (EI s A n c)) (.bool t) (.slice B m d); simp only [World.size_alloc] at h_; exact h_
    have F2 := F1.alloc F1.size (EI t B m d)
    go_enter Try.func4, Try.ntmps4
    go_wp2_with fail
    refine (awake_q _).mono ?_
    rintro e w3 ⟨rfl, b3⟩
    have ba_3 := ba_2.below b3 ba_2.lt
    have bb_3 := bb_2.below b3 bb_2.lt
    have F3 := below_then F2 (Nat.le_refl _) b3
    have ba_u3 := ba_3.cell0
    have ba_v3 := ba_3.cell1
    have bb_u3 := bb_3.cell0
    have bb_v3 := bb_3.cell1
    go_wp2
    go_ret
    exact ⟨rfl, F3⟩
set_option maxHeartbeats 4000000 in
theorem lmake0 (s t : Bool) (A B : Option Addr) (n c m d : Nat) (k : Int) (x y : Int) (w : World) (ha : Iz w s A n c x) (hb : Iz w t B m d y) (hn : n ≤ 3 ∧ m ≤ 3) (k1 : -9223372036854775808 ≤ k) (k2 : k ≤ 9223372036854775807) (h0 : y = 0) :
    Calls Try.prog 4 #[.agg #[.bool s, .slice A n c], .agg #[.bool t, .slice B m d], .int .i64 k] w fun e w' => e = .returned (.bool true) ∧ Below w.heap.size w w' := by
  have d1 : decide ((3 : Int) < (n : Int)) = false := by simp; omega
  have d2 : decide ((3 : Int) < (m : Int)) = false := by simp; omega
  have e1 : n ≤ 16384 := by omega
  have e2 : m ≤ 16384 := by omega
  have lx := ha.abs hn.1
  have ly := hb.abs hn.2
  obtain ⟨p, hp⟩ : ∃ p : Rat, 0 = p := ⟨_, rfl⟩
  obtain ⟨v, hv⟩ : ∃ v : Rat, (k : Rat) / ((6 : Int) : Rat) = v := ⟨_, rfl⟩
  have one3 : (1 : Nat) < pw 3 := Nat.lt_of_lt_of_le (by decide : 1 < pw 1) (pw_mono (by omega))
  have two : pw 2 = 18446744073709551616 := by decide
  have si : ∀ z : Int, ∀ K, 1 ≤ K → z.natAbs < pw K → Qs K (z : Rat) := fun z K hK hz => ⟨by simpa using hz, Nat.lt_of_lt_of_le (by simpa using (by decide : 1 < pw 1)) (pw_mono hK)⟩
  have sp : Qs 6 p := by rw [← hp]; exact ⟨Nat.lt_of_lt_of_le (by decide : (0 : Rat).num.natAbs < pw 1) (pw_mono (by omega)), Nat.lt_of_lt_of_le (by decide : (0 : Rat).den < pw 1) (pw_mono (by omega))⟩
  have sk : Qs 2 (k : Rat) := si k 2 (by omega) (by omega)
  have hs6 : Qs 1 ((6 : Int) : Rat) := si 6 1 (by omega) (by decide)
  have sv : Qs 3 v := by rw [← hv]; exact size_div sk hs6 (by omega)
  have HP := hide hp
  have HV := hide hv
  have H0 := hide h0
  have HM := hide (show v * ((6 : Int) : Rat) = (k : Rat) by rw [← hv]; exact Rat.div_mul_cancel (by decide +kernel))
  clear hp hv h0 hn lx ly si
  have ha_1 := ha.alloc (EI s A n c)
  have hb_1 := hb.alloc (EI s A n c)
  have ba_1 : Sb ((w).alloc (EI s A n c)) (w.heap.size) (.bool s) (.slice A n c) := by have h_ := Sb.new (w) (.bool s) (.slice A n c); exact h_
  have F1 := (Below.refl w.heap.size w).alloc (Nat.le_refl _) (EI s A n c)
  have ha_2 := ha_1.alloc (EI t B m d)
  have hb_2 := hb_1.alloc (EI t B m d)
  have ba_2 := ba_1.alloc (EI t B m d)
  have bb_2 : Sb (((w).alloc (EI s A n c)).alloc (EI t B m d)) (w.heap.size + 1) (.bool t) (.slice B m d) := by have h_ := Sb.new ((w).alloc (EI s A n c)) (.bool t) (.slice B m d); simp only [World.size_alloc] at h_; exact h_
  have F2 := F1.alloc F1.size (EI t B m d)
  go_enter Try.func4, Try.ntmps4
  go_wp2_with fail
  refine (awake_q _).mono ?_
  rintro e w3 ⟨rfl, b3⟩
  have ha_3 := ha_2.below b3
  have hb_3 := hb_2.below b3
  have ba_3 := ba_2.below b3 ba_2.lt
  have bb_3 := bb_2.below b3 bb_2.lt
  have F3 := below_then F2 (Nat.le_refl _) b3
  have ba_u3 := ba_3.cell0
  have ba_v3 := ba_3.cell1
  have bb_u3 := bb_3.cell0
  have bb_v3 := bb_3.cell1
  go_wp2_with fail
  refine (make_q0 _ _ _ _ _ _ _ _ _ _ H0.out hb_3 e2).mono ?_
  rintro e w4 ⟨s4, A4, n4, c4, B4, m4, d4, rfl, x1, b4⟩
  have ha_4 := ha_3.below b4
  have hb_4 := hb_3.below b4
  have ba_4 := ba_3.below b4 ba_3.lt
  have bb_4 := bb_3.below b4 bb_3.lt
  have F4 := below_then F3 (Nat.le_refl _) b4
  have ba_u4 := ba_4.cell0
  have ba_v4 := ba_4.cell1
  have bb_u4 := bb_4.cell0
  have bb_v4 := bb_4.cell1
  have x1_ok := x1.to HP.out
  have lt_bx_ba := ba_4.lt
  have lt_bx_bb := bb_4.lt
  have ha_5 := ha_4.alloc (EQ s4 A4 n4 c4 B4 m4 d4)
  have hb_5 := hb_4.alloc (EQ s4 A4 n4 c4 B4 m4 d4)
  have x1_5 := x1_ok.alloc (EQ s4 A4 n4 c4 B4 m4 d4)
  have ba_5 := ba_4.alloc (EQ s4 A4 n4 c4 B4 m4 d4)
  have bb_5 := bb_4.alloc (EQ s4 A4 n4 c4 B4 m4 d4)
  have bx_5 : Sq ((w4).alloc (EQ s4 A4 n4 c4 B4 m4 d4)) (w4.heap.size) (.bool s4) (.slice A4 n4 c4) (.slice B4 m4 d4) := by have h_ := Sq.new (w4) (.bool s4) (.slice A4 n4 c4) (.slice B4 m4 d4); exact h_
  have F5 := F4.alloc F4.size (EQ s4 A4 n4 c4 B4 m4 d4)
  have ba_u5 := ba_5.cell0
  have ba_v5 := ba_5.cell1
  have bb_u5 := bb_5.cell0
  have bb_v5 := bb_5.cell1
  have bx_u5 := bx_5.cell0
  have bx_v5 := bx_5.cell1
  have bx_w5 := bx_5.cell2
  go_wp2_with fail
  refine (rmake_q0 _ _ _ _ _ _ _ _ _ _ H0.out hb_5 e2).mono ?_
  rintro e w6 ⟨s6, A6, n6, c6, B6, m6, d6, rfl, y1, b6⟩
  have ha_6 := ha_5.below b6
  have hb_6 := hb_5.below b6
  have x1_6 := x1_5.below b6
  have ba_6 := ba_5.below b6 ba_5.lt
  have bb_6 := bb_5.below b6 bb_5.lt
  have bx_6 := bx_5.below b6 bx_5.lt
  have F6 := below_then F5 (Nat.le_refl _) b6
  have ba_u6 := ba_6.cell0
  have ba_v6 := ba_6.cell1
  have bb_u6 := bb_6.cell0
  have bb_v6 := bb_6.cell1
  have bx_u6 := bx_6.cell0
  have bx_v6 := bx_6.cell1
  have bx_w6 := bx_6.cell2
  have y1_ok := y1.to HP.out
  have lt_by__ba := ba_6.lt
  have lt_by__bb := bb_6.lt
  have lt_by__bx := bx_6.lt
  have ha_7 := ha_6.alloc (EQ s6 A6 n6 c6 B6 m6 d6)
  have hb_7 := hb_6.alloc (EQ s6 A6 n6 c6 B6 m6 d6)
  have x1_7 := x1_6.alloc (EQ s6 A6 n6 c6 B6 m6 d6)
  have y1_7 := y1_ok.alloc (EQ s6 A6 n6 c6 B6 m6 d6)
  have ba_7 := ba_6.alloc (EQ s6 A6 n6 c6 B6 m6 d6)
  have bb_7 := bb_6.alloc (EQ s6 A6 n6 c6 B6 m6 d6)
  have bx_7 := bx_6.alloc (EQ s6 A6 n6 c6 B6 m6 d6)
  have by__7 : Sq ((w6).alloc (EQ s6 A6 n6 c6 B6 m6 d6)) (w6.heap.size) (.bool s6) (.slice A6 n6 c6) (.slice B6 m6 d6) := by have h_ := Sq.new (w6) (.bool s6) (.slice A6 n6 c6) (.slice B6 m6 d6); exact h_
  have F7 := F6.alloc F6.size (EQ s6 A6 n6 c6 B6 m6 d6)
  have ba_u7 := ba_7.cell0
  have ba_v7 := ba_7.cell1
  have bb_u7 := bb_7.cell0
  have bb_v7 := bb_7.cell1
  have bx_u7 := bx_7.cell0
  have bx_v7 := bx_7.cell1
  have bx_w7 := bx_7.cell2
  have by__u7 := by__7.cell0
  have by__v7 := by__7.cell1
  have by__w7 := by__7.cell2
  go_wp2_with fail
  refine (frac_q k 6 v _ HV.out (by omega) k1 k2 (by omega) (by omega)).mono ?_
  rintro e w8 ⟨s8, A8, n8, c8, B8, m8, d8, rfl, z1, b8⟩
  have ha_8 := ha_7.below b8
  have hb_8 := hb_7.below b8
  have x1_8 := x1_7.below b8
  have y1_8 := y1_7.below b8
  have ba_8 := ba_7.below b8 ba_7.lt
  have bb_8 := bb_7.below b8 bb_7.lt
  have bx_8 := bx_7.below b8 bx_7.lt
  have by__8 := by__7.below b8 by__7.lt
  have F8 := below_then F7 (Nat.le_refl _) b8
  have ba_u8 := ba_8.cell0
  have ba_v8 := ba_8.cell1
  have bb_u8 := bb_8.cell0
  have bb_v8 := bb_8.cell1
  have bx_u8 := bx_8.cell0
  have bx_v8 := bx_8.cell1
  have bx_w8 := bx_8.cell2
  have by__u8 := by__8.cell0
  have by__v8 := by__8.cell1
  have by__w8 := by__8.cell2
  have lt_bz_ba := ba_8.lt
  have lt_bz_bb := bb_8.lt
  have lt_bz_bx := bx_8.lt
  have lt_bz_by_ := by__8.lt
  have ha_9 := ha_8.alloc (EQ s8 A8 n8 c8 B8 m8 d8)
  have hb_9 := hb_8.alloc (EQ s8 A8 n8 c8 B8 m8 d8)
  have x1_9 := x1_8.alloc (EQ s8 A8 n8 c8 B8 m8 d8)
  have y1_9 := y1_8.alloc (EQ s8 A8 n8 c8 B8 m8 d8)
  have z1_9 := z1.alloc (EQ s8 A8 n8 c8 B8 m8 d8)
  have ba_9 := ba_8.alloc (EQ s8 A8 n8 c8 B8 m8 d8)
  have bb_9 := bb_8.alloc (EQ s8 A8 n8 c8 B8 m8 d8)
  have bx_9 := bx_8.alloc (EQ s8 A8 n8 c8 B8 m8 d8)
  have by__9 := by__8.alloc (EQ s8 A8 n8 c8 B8 m8 d8)
  have bz_9 : Sq ((w8).alloc (EQ s8 A8 n8 c8 B8 m8 d8)) (w8.heap.size) (.bool s8) (.slice A8 n8 c8) (.slice B8 m8 d8) := by have h_ := Sq.new (w8) (.bool s8) (.slice A8 n8 c8) (.slice B8 m8 d8); exact h_
  have F9 := F8.alloc F8.size (EQ s8 A8 n8 c8 B8 m8 d8)
  skip
  have ba_u9 := ba_9.cell0
  have ba_v9 := ba_9.cell1
  have bb_u9 := bb_9.cell0
  have bb_v9 := bb_9.cell1
  have bx_u9 := bx_9.cell0
  have bx_v9 := bx_9.cell1
  have bx_w9 := bx_9.cell2
  have by__u9 := by__9.cell0
  have by__v9 := by__9.cell1
  have by__w9 := by__9.cell2
  have bz_u9 := bz_9.cell0
  have bz_v9 := bz_9.cell1
  have bz_w9 := bz_9.cell2
  go_wp2_with fail
  refine (frac_q0 k 0 _ rfl k1 k2).mono ?_
  rintro e w10 ⟨s10, A10, n10, c10, B10, m10, d10, rfl, z0, b10⟩
  have ha_10 := ha_9.below b10
  have hb_10 := hb_9.below b10
  have x1_10 := x1_9.below b10
  have y1_10 := y1_9.below b10
  have z1_10 := z1_9.below b10
  have ba_10 := ba_9.below b10 ba_9.lt
  have bb_10 := bb_9.below b10 bb_9.lt
  have bx_10 := bx_9.below b10 bx_9.lt
  have by__10 := by__9.below b10 by__9.lt
  have bz_10 := bz_9.below b10 bz_9.lt
  have F10 := below_then F9 (Nat.le_refl _) b10
  have ba_u10 := ba_10.cell0
  have ba_v10 := ba_10.cell1
  have bb_u10 := bb_10.cell0
  have bb_v10 := bb_10.cell1
  have bx_u10 := bx_10.cell0
  have bx_v10 := bx_10.cell1
  have bx_w10 := bx_10.cell2
  have by__u10 := by__10.cell0
  have by__v10 := by__10.cell1
  have by__w10 := by__10.cell2
  have bz_u10 := bz_10.cell0
  have bz_v10 := bz_10.cell1
  have bz_w10 := bz_10.cell2
  have lt_bz0_ba := ba_10.lt
  have lt_bz0_bb := bb_10.lt
  have lt_bz0_bx := bx_10.lt
  have lt_bz0_by_ := by__10.lt
  have lt_bz0_bz := bz_10.lt
  have ha_11 := ha_10.alloc (EQ s10 A10 n10 c10 B10 m10 d10)
  have hb_11 := hb_10.alloc (EQ s10 A10 n10 c10 B10 m10 d10)
  have x1_11 := x1_10.alloc (EQ s10 A10 n10 c10 B10 m10 d10)
  have y1_11 := y1_10.alloc (EQ s10 A10 n10 c10 B10 m10 d10)
  have z1_11 := z1_10.alloc (EQ s10 A10 n10 c10 B10 m10 d10)
  have ba_11 := ba_10.alloc (EQ s10 A10 n10 c10 B10 m10 d10)
  have bb_11 := bb_10.alloc (EQ s10 A10 n10 c10 B10 m10 d10)
  have bx_11 := bx_10.alloc (EQ s10 A10 n10 c10 B10 m10 d10)
  have by__11 := by__10.alloc (EQ s10 A10 n10 c10 B10 m10 d10)
  have bz_11 := bz_10.alloc (EQ s10 A10 n10 c10 B10 m10 d10)
  have bz0_11 : Sq ((w10).alloc (EQ s10 A10 n10 c10 B10 m10 d10)) (w10.heap.size) (.bool s10) (.slice A10 n10 c10) (.slice B10 m10 d10) := by have h_ := Sq.new (w10) (.bool s10) (.slice A10 n10 c10) (.slice B10 m10 d10); exact h_
  have F11 := F10.alloc F10.size (EQ s10 A10 n10 c10 B10 m10 d10)
  have lx1 := x1_11.tiny6 sp (by omega)
  have lz1 := z1_11.small sv (by omega)
  go_upto_region 9 with fail
  go_cut [15] (fun sx11 wy => ∃ (wx11 : World) (g : Nat) (s13 : Bool) (A13 : Option Addr) (n13 : Nat) (c13 : Nat) (B13 : Option Addr) (m13 : Nat) (d13 : Nat) (s14 : Bool) (A14 : Option Addr) (n14 : Nat) (c14 : Nat) (B14 : Option Addr) (m14 : Nat) (d14 : Nat), wx11 = wy ∧ sx11 = .pointer (some ⟨g, 0, none⟩) ∧ Sq wx11 g (.bool s14) (.slice A14 n14 c14) (.slice B14 m14 d14) ∧ w.heap.size ≤ g ∧ w4.heap.size < g ∧ w6.heap.size < g ∧ w8.heap.size < g ∧ Sq wx11 (w4.heap.size) (.bool s4) (.slice A4 n4 c4) (.slice B4 m4 d4) ∧ Sq wx11 (w6.heap.size) (.bool s6) (.slice A6 n6 c6) (.slice B6 m6 d6) ∧ Sq wx11 (w8.heap.size) (.bool s8) (.slice A8 n8 c8) (.slice B8 m8 d8) ∧ Cq wx11 s4 A4 n4 c4 B4 m4 d4 p ∧ Cq wx11 s6 A6 n6 c6 B6 m6 d6 p ∧ Cq wx11 s8 A8 n8 c8 B8 m8 d8 v ∧ Cq wx11 s14 A14 n14 c14 B14 m14 d14 (k : Rat) ∧ Below w.heap.size w wx11)
  case first =>
    have x1_12 := x1_11.drew
    have y1_12 := y1_11.drew
    have z1_12 := z1_11.drew
    have bx_12 := bx_11.drew
    have by__12 := by__11.drew
    have bz_12 := bz_11.drew
    have F12 := F11.drew
    have x1_z0 := (x1_11.alloc EQ0).drew
    have y1_z0 := (y1_11.alloc EQ0).drew
    have z1_z0 := (z1_11.alloc EQ0).drew
    have bx_z0 := (bx_11.alloc EQ0).drew
    have by__z0 := (by__11.alloc EQ0).drew
    have bz_z0 := (bz_11.alloc EQ0).drew
    have lz_bx : w4.heap.size < w10.heap.size + 1 := by omega
    have lz_by_ : w6.heap.size < w10.heap.size + 1 := by omega
    have lz_bz : w8.heap.size < w10.heap.size + 1 := by omega
    have gl : w.heap.size ≤ w10.heap.size + 1 := by omega
    have F_z0 := (F11.alloc F11.size EQ0).drew
    have zb_0 : Sq (((w10).alloc (EQ s10 A10 n10 c10 B10 m10 d10)).alloc EQ0).drew (w10.heap.size + 1) (.bool false) (.slice none 0 0) (.slice none 0 0) := by have h_ := Sq.new ((w10).alloc (EQ s10 A10 n10 c10 B10 m10 d10)) (.bool false) (.slice none 0 0) (.slice none 0 0); simp only [World.size_alloc] at h_; exact h_.drew
    go_region_held3 (fun w' => w'.cell? ⟨w8.heap.size, 0, none⟩ = some (.bool s8) ∧ w'.cell? ⟨w8.heap.size, 1, none⟩ = some (.slice A8 n8 c8) ∧ w'.cell? ⟨w8.heap.size, 2, none⟩ = some (.slice B8 m8 d8))
      (first
        | with_reducible exact ⟨(bz_14.alloc (EQ s14 A14 n14 c14 B14 m14 d14)).cell0, (bz_14.alloc (EQ s14 A14 n14 c14 B14 m14 d14)).cell1, (bz_14.alloc (EQ s14 A14 n14 c14 B14 m14 d14)).cell2⟩
        | with_reducible exact ⟨(bz_14.past (u0 := .bool s14) (u1 := .slice A14 n14 c14) (u2 := .slice B14 m14 d14) (Nat.ne_of_lt lz_bz)).cell0, (bz_14.past (u0 := .bool s14) (u1 := .slice A14 n14 c14) (u2 := .slice B14 m14 d14) (Nat.ne_of_lt lz_bz)).cell1, (bz_14.past (u0 := .bool s14) (u1 := .slice A14 n14 c14) (u2 := .slice B14 m14 d14) (Nat.ne_of_lt lz_bz)).cell2⟩
        | with_reducible exact ⟨(bz_14.alloc EQ0).cell0, (bz_14.alloc EQ0).cell1, (bz_14.alloc EQ0).cell2⟩
        | with_reducible exact ⟨bz_14.cell0, bz_14.cell1, bz_14.cell2⟩
        | with_reducible exact ⟨bz_13.alloc EQ0 |>.cell0, bz_13.alloc EQ0 |>.cell1, bz_13.alloc EQ0 |>.cell2⟩
        | with_reducible exact ⟨(bz_13.alloc EQ0).cell0, (bz_13.alloc EQ0).cell1, (bz_13.alloc EQ0).cell2⟩
        | with_reducible exact ⟨bz_13.cell0, bz_13.cell1, bz_13.cell2⟩
        | with_reducible exact ⟨bz_z0.cell0, bz_z0.cell1, bz_z0.cell2⟩
        | with_reducible exact ⟨bz_12.cell0, bz_12.cell1, bz_12.cell2⟩
        | fail)
      (first
        | (go_at_call 31; (with_reducible refine (of_q 6 _ (by omega) (by omega)).mono ?_); rintro e w13 ⟨s13, A13, n13, c13, B13, m13, d13, rfl, six, b13⟩; have x1_13 := x1_12.below b13; have y1_13 := y1_12.below b13; have z1_13 := z1_12.below b13; have bx_13 := bx_12.below b13 bx_12.lt; have by__13 := by__12.below b13 by__12.lt; have bz_13 := bz_12.below b13 bz_12.lt; have F13 := below_then F12 (Nat.le_refl _) b13; have l6 := six.small hs6 (by omega))
        | (go_at_call 31; (with_reducible refine (of_q 6 _ (by omega) (by omega)).mono ?_); rintro e w13 ⟨s13, A13, n13, c13, B13, m13, d13, rfl, six, b13⟩; have x1_13 := x1_z0.below b13; have y1_13 := y1_z0.below b13; have z1_13 := z1_z0.below b13; have bx_13 := bx_z0.below b13 bx_z0.lt; have by__13 := by__z0.below b13 by__z0.lt; have bz_13 := bz_z0.below b13 bz_z0.lt; have F13 := below_then F_z0 (Nat.le_refl _) b13; have zb_13 := zb_0.below b13 zb_0.lt; have l6 := six.small hs6 (by omega))
        | (go_at_call 30; (with_reducible refine (mul_q _ _ _ _ _ _ _ _ _ _ _ _ _ _ _ _ _ _ HM.out z1_13.iq six.iq lz1.1 lz1.2 l6.1 l6.2).mono ?_); rintro e w14 ⟨s14, A14, n14, c14, B14, m14, d14, rfl, w6_, b14⟩; have x1_14 := x1_13.below b14; have y1_14 := y1_13.below b14; have z1_14 := z1_13.below b14; have six_14 := six.below b14; have bx_14 := bx_13.below b14 bx_13.lt; have by__14 := by__13.below b14 by__13.lt; have bz_14 := bz_13.below b14 bz_13.lt; have F14 := below_then F13 (Nat.le_refl _) b14; have zb_14 := zb_13.below b14 zb_13.lt; have zk14_0 := zb_14.cell0; have zk14_1 := zb_14.cell1; have zk14_2 := zb_14.cell2; have zf14_0 := zb_14.frozen 0; have zf14_1 := zb_14.frozen 1; have zf14_2 := zb_14.frozen 2)
        | (go_at_call 30; (with_reducible refine (mul_q _ _ _ _ _ _ _ _ _ _ _ _ _ _ _ _ _ _ HM.out z1_13.iq six.iq lz1.1 lz1.2 l6.1 l6.2).mono ?_); rintro e w14 ⟨s14, A14, n14, c14, B14, m14, d14, rfl, w6_, b14⟩; have x1_14 := x1_13.below b14; have y1_14 := y1_13.below b14; have z1_14 := z1_13.below b14; have six_14 := six.below b14; have bx_14 := bx_13.below b14 bx_13.lt; have by__14 := by__13.below b14 by__13.lt; have bz_14 := bz_13.below b14 bz_13.lt; have F14 := below_then F13 (Nat.le_refl _) b14)
        | (have x1_z14 := x1_13.alloc EQ0; have y1_z14 := y1_13.alloc EQ0; have z1_z14 := z1_13.alloc EQ0; have six_z14 := six.alloc EQ0; have bx_z14 := bx_13.alloc EQ0; have by__z14 := by__13.alloc EQ0; have bz_z14 := bz_13.alloc EQ0; have lz_bx := bx_13.lt; have lz_by_ := by__13.lt; have lz_bz := bz_13.lt; have gl := F13.size; have F_z14 := F13.alloc F13.size EQ0; have zb_13 := Sq.new (w13) (.bool false) (.slice none 0 0) (.slice none 0 0); go_at_call 30; (with_reducible refine (mul_q _ _ _ _ _ _ _ _ _ _ _ _ _ _ _ _ _ _ HM.out z1_z14.iq six_z14.iq lz1.1 lz1.2 l6.1 l6.2).mono ?_); rintro e w14 ⟨s14, A14, n14, c14, B14, m14, d14, rfl, w6_, b14⟩; have x1_14 := x1_z14.below b14; have y1_14 := y1_z14.below b14; have z1_14 := z1_z14.below b14; have six_14 := six_z14.below b14; have bx_14 := bx_z14.below b14 bx_z14.lt; have by__14 := by__z14.below b14 by__z14.lt; have bz_14 := bz_z14.below b14 bz_z14.lt; have F14 := below_then F_z14 (Nat.le_refl _) b14; have zb_14 := zb_13.below b14 zb_13.lt; have zk14_0 := zb_14.cell0; have zk14_1 := zb_14.cell1; have zk14_2 := zb_14.cell2; have zf14_0 := zb_14.frozen 0; have zf14_1 := zb_14.frozen 1; have zf14_2 := zb_14.frozen 2)
        | fail)
    all_goals (go_wp2_with fail; go_meet; first | exact ⟨_, _, s13, A13, n13, c13, B13, m13, d13, s14, A14, n14, c14, B14, m14, d14, rfl, rfl, zb_14.stor, gl, lz_bx, lz_by_, lz_bz, bx_14.past (Nat.ne_of_lt lz_bx), by__14.past (Nat.ne_of_lt lz_by_), bz_14.past (Nat.ne_of_lt lz_bz), x1_14.storQ zb_14 (.bool s14) (.slice A14 n14 c14) (.slice B14 m14 d14), y1_14.storQ zb_14 (.bool s14) (.slice A14 n14 c14) (.slice B14 m14 d14), z1_14.storQ zb_14 (.bool s14) (.slice A14 n14 c14) (.slice B14 m14 d14), w6_.storQ zb_14 (.bool s14) (.slice A14 n14 c14) (.slice B14 m14 d14), below_storQ F14 gl⟩ | exact ⟨_, _, s13, A13, n13, c13, B13, m13, d13, s14, A14, n14, c14, B14, m14, d14, rfl, rfl, Sq.new w14 (.bool s14) (.slice A14 n14 c14) (.slice B14 m14 d14), F14.size, bx_14.lt, by__14.lt, bz_14.lt, bx_14.alloc (EQ s14 A14 n14 c14 B14 m14 d14), by__14.alloc (EQ s14 A14 n14 c14 B14 m14 d14), bz_14.alloc (EQ s14 A14 n14 c14 B14 m14 d14), x1_14.alloc (EQ s14 A14 n14 c14 B14 m14 d14), y1_14.alloc (EQ s14 A14 n14 c14 B14 m14 d14), z1_14.alloc (EQ s14 A14 n14 c14 B14 m14 d14), w6_.alloc (EQ s14 A14 n14 c14 B14 m14 d14), F14.alloc F14.size _⟩ | fail)
  case rest =>
    obtain ⟨wx11, g15, s13, A13, n13, c13, B13, m13, d13, s14, A14, n14, c14, B14, m14, d14, rfl, rfl, bs6_15, gl_15, lt_bs6_bx, lt_bs6_by_, lt_bs6_bz, bx_15, by__15, bz_15, x1_15, y1_15, z1_15, w6__15, F15⟩ := hcut
    have lw6 := w6__15.tiny6 sk (by omega)
    go_wp2_with fail
    have x1_16 := x1_15.drew
    have y1_16 := y1_15.drew
    have z1_16 := z1_15.drew
    have w6__16 := w6__15.drew
    have bx_16 := bx_15.drew
    have by__16 := by__15.drew
    have bz_16 := bz_15.drew
    have bs6_16 := bs6_15.drew
    have F16 := F15.drew
    go_region_held3 (fun w' => w'.cell? ⟨w4.heap.size, 0, none⟩ = some (.bool s4) ∧ w'.cell? ⟨w4.heap.size, 1, none⟩ = some (.slice A4 n4 c4) ∧ w'.cell? ⟨w4.heap.size, 2, none⟩ = some (.slice B4 m4 d4) ∧ w'.cell? ⟨w6.heap.size, 0, none⟩ = some (.bool s6) ∧ w'.cell? ⟨w6.heap.size, 1, none⟩ = some (.slice A6 n6 c6) ∧ w'.cell? ⟨w6.heap.size, 2, none⟩ = some (.slice B6 m6 d6) ∧ w'.cell? ⟨w8.heap.size, 0, none⟩ = some (.bool s8) ∧ w'.cell? ⟨w8.heap.size, 1, none⟩ = some (.slice A8 n8 c8) ∧ w'.cell? ⟨w8.heap.size, 2, none⟩ = some (.slice B8 m8 d8) ∧ w'.cell? ⟨g15, 0, none⟩ = some (.bool s14) ∧ w'.cell? ⟨g15, 1, none⟩ = some (.slice A14 n14 c14) ∧ w'.cell? ⟨g15, 2, none⟩ = some (.slice B14 m14 d14))
      (first
        | with_reducible exact ⟨bx_22.cell0, bx_22.cell1, bx_22.cell2, by__22.cell0, by__22.cell1, by__22.cell2, bz_22.cell0, bz_22.cell1, bz_22.cell2, bs6_22.cell0, bs6_22.cell1, bs6_22.cell2⟩
        | with_reducible exact ⟨bx_21.cell0, bx_21.cell1, bx_21.cell2, by__21.cell0, by__21.cell1, by__21.cell2, bz_21.cell0, bz_21.cell1, bz_21.cell2, bs6_21.cell0, bs6_21.cell1, bs6_21.cell2⟩
        | with_reducible exact ⟨bx_20.cell0, bx_20.cell1, bx_20.cell2, by__20.cell0, by__20.cell1, by__20.cell2, bz_20.cell0, bz_20.cell1, bz_20.cell2, bs6_20.cell0, bs6_20.cell1, bs6_20.cell2⟩
        | with_reducible exact ⟨bx_19.cell0, bx_19.cell1, bx_19.cell2, by__19.cell0, by__19.cell1, by__19.cell2, bz_19.cell0, bz_19.cell1, bz_19.cell2, bs6_19.cell0, bs6_19.cell1, bs6_19.cell2⟩
        | with_reducible exact ⟨bx_18.cell0, bx_18.cell1, bx_18.cell2, by__18.cell0, by__18.cell1, by__18.cell2, bz_18.cell0, bz_18.cell1, bz_18.cell2, bs6_18.cell0, bs6_18.cell1, bs6_18.cell2⟩
        | with_reducible exact ⟨bx_17.cell0, bx_17.cell1, bx_17.cell2, by__17.cell0, by__17.cell1, by__17.cell2, bz_17.cell0, bz_17.cell1, bz_17.cell2, bs6_17.cell0, bs6_17.cell1, bs6_17.cell2⟩
        | with_reducible exact ⟨bx_16.cell0, bx_16.cell1, bx_16.cell2, by__16.cell0, by__16.cell1, by__16.cell2, bz_16.cell0, bz_16.cell1, bz_16.cell2, bs6_16.cell0, bs6_16.cell1, bs6_16.cell2⟩
        | fail)
      (first
        | (go_at_call 15; (with_reducible refine (same_q _ _ _ _ _ _ _ _ _ _ _ _ _ _ _ _ x1_16 y1_16 lx1.1 lx1.2).mono ?_); rintro e w17 ⟨rfl, b17⟩; have x1_17 := x1_16.below b17; have y1_17 := y1_16.below b17; have z1_17 := z1_16.below b17; have w6__17 := w6__16.below b17; have bx_17 := bx_16.below b17 bx_16.lt; have by__17 := by__16.below b17 by__16.lt; have bz_17 := bz_16.below b17 bz_16.lt; have bs6_17 := bs6_16.below b17 bs6_16.lt; have F17 := below_then F16 (Nat.le_refl _) b17)
        | (go_at_call 31; (with_reducible refine (of_q k _ k1 k2).mono ?_); rintro e w18 ⟨s18, A18, n18, c18, B18, m18, d18, rfl, g1, b18⟩; have x1_18 := x1_17.below b18; have y1_18 := y1_17.below b18; have z1_18 := z1_17.below b18; have w6__18 := w6__17.below b18; have bx_18 := bx_17.below b18 bx_17.lt; have by__18 := by__17.below b18 by__17.lt; have bz_18 := bz_17.below b18 bz_17.lt; have bs6_18 := bs6_17.below b18 bs6_17.lt; have F18 := below_then F17 (Nat.le_refl _) b18; have lg1 := g1.tiny6 sk (by omega))
        | (go_at_call 32; (with_reducible refine (rof_q k _ k1 k2).mono ?_); rintro e w19 ⟨s19, A19, n19, c19, B19, m19, d19, rfl, g2, b19⟩; have x1_19 := x1_18.below b19; have y1_19 := y1_18.below b19; have z1_19 := z1_18.below b19; have w6__19 := w6__18.below b19; have g1_19 := g1.below b19; have bx_19 := bx_18.below b19 bx_18.lt; have by__19 := by__18.below b19 by__18.lt; have bz_19 := bz_18.below b19 bz_18.lt; have bs6_19 := bs6_18.below b19 bs6_18.lt; have F19 := below_then F18 (Nat.le_refl _) b19)
        | (go_at_call 15; (with_reducible refine (same_q _ _ _ _ _ _ _ _ _ _ _ _ _ _ _ _ g1_19 g2 lg1.1 lg1.2).mono ?_); rintro e w20 ⟨rfl, b20⟩; have x1_20 := x1_19.below b20; have y1_20 := y1_19.below b20; have z1_20 := z1_19.below b20; have w6__20 := w6__19.below b20; have g1_20 := g1_19.below b20; have g2_20 := g2.below b20; have bx_20 := bx_19.below b20 bx_19.lt; have by__20 := by__19.below b20 by__19.lt; have bz_20 := bz_19.below b20 bz_19.lt; have bs6_20 := bs6_19.below b20 bs6_19.lt; have F20 := below_then F19 (Nat.le_refl _) b20)
        | (go_at_call 32; (with_reducible refine (rof_q k _ k1 k2).mono ?_); rintro e w21 ⟨s21, A21, n21, c21, B21, m21, d21, rfl, g3_, b21⟩; have x1_21 := x1_20.below b21; have y1_21 := y1_20.below b21; have z1_21 := z1_20.below b21; have w6__21 := w6__20.below b21; have g1_21 := g1_20.below b21; have g2_21 := g2_20.below b21; have bx_21 := bx_20.below b21 bx_20.lt; have by__21 := by__20.below b21 by__20.lt; have bz_21 := bz_20.below b21 bz_20.lt; have bs6_21 := bs6_20.below b21 bs6_20.lt; have F21 := below_then F20 (Nat.le_refl _) b21)
        | (go_at_call 15; (with_reducible refine (same_q _ _ _ _ _ _ _ _ _ _ _ _ _ _ _ _ w6__21 g3_ lw6.1 lw6.2).mono ?_); rintro e w22 ⟨rfl, b22⟩; have x1_22 := x1_21.below b22; have y1_22 := y1_21.below b22; have z1_22 := z1_21.below b22; have w6__22 := w6__21.below b22; have g1_22 := g1_21.below b22; have g2_22 := g2_21.below b22; have g3__22 := g3_.below b22; have bx_22 := bx_21.below b22 bx_21.lt; have by__22 := by__21.below b22 by__21.lt; have bz_22 := bz_21.below b22 bz_21.lt; have bs6_22 := bs6_21.below b22 bs6_21.lt; have F22 := below_then F21 (Nat.le_refl _) b22)
        | fail)
    have bx_u22 := bx_22.cell0
    have bx_v22 := bx_22.cell1
    have bx_w22 := bx_22.cell2
    have by__u22 := by__22.cell0
    have by__v22 := by__22.cell1
    have by__w22 := by__22.cell2
    have bz_u22 := bz_22.cell0
    have bz_v22 := bz_22.cell1
    have bz_w22 := bz_22.cell2
    have bs6_u22 := bs6_22.cell0
    have bs6_v22 := bs6_22.cell1
    have bs6_w22 := bs6_22.cell2
    go_wp2
    go_ret
    exact ⟨rfl, F22⟩
set_option maxHeartbeats 4000000 in
theorem lmake (s t : Bool) (A B : Option Addr) (n c m d : Nat) (k : Int) (x y : Int) (w : World) (ha : Iz w s A n c x) (hb : Iz w t B m d y) (hn : n ≤ 3 ∧ m ≤ 3) (k1 : -9223372036854775808 ≤ k) (k2 : k ≤ 9223372036854775807) (h0 : y ≠ 0) :
    Calls Try.prog 4 #[.agg #[.bool s, .slice A n c], .agg #[.bool t, .slice B m d], .int .i64 k] w fun e w' => e = .returned (.bool true) ∧ Below w.heap.size w w' := by
  have d1 : decide ((3 : Int) < (n : Int)) = false := by simp; omega
  have d2 : decide ((3 : Int) < (m : Int)) = false := by simp; omega
  have e1 : n ≤ 16384 := by omega
  have e2 : m ≤ 16384 := by omega
  have lx := ha.abs hn.1
  have ly := hb.abs hn.2
  obtain ⟨p, hp⟩ : ∃ p : Rat, (x : Rat) / (y : Rat) = p := ⟨_, rfl⟩
  obtain ⟨v, hv⟩ : ∃ v : Rat, (k : Rat) / ((6 : Int) : Rat) = v := ⟨_, rfl⟩
  have one3 : (1 : Nat) < pw 3 := Nat.lt_of_lt_of_le (by decide : 1 < pw 1) (pw_mono (by omega))
  have two : pw 2 = 18446744073709551616 := by decide
  have si : ∀ z : Int, ∀ K, 1 ≤ K → z.natAbs < pw K → Qs K (z : Rat) := fun z K hK hz => ⟨by simpa using hz, Nat.lt_of_lt_of_le (by simpa using (by decide : 1 < pw 1)) (pw_mono hK)⟩
  have sp : Qs 6 p := by rw [← hp]; exact size_div (si x 3 (by omega) lx) (si y 3 (by omega) ly) (by omega)
  have sk : Qs 2 (k : Rat) := si k 2 (by omega) (by omega)
  have hs6 : Qs 1 ((6 : Int) : Rat) := si 6 1 (by omega) (by decide)
  have sv : Qs 3 v := by rw [← hv]; exact size_div sk hs6 (by omega)
  have HP := hide hp
  have HV := hide hv
  have H0 := hide h0
  have HM := hide (show v * ((6 : Int) : Rat) = (k : Rat) by rw [← hv]; exact Rat.div_mul_cancel (by decide +kernel))
  clear hp hv h0 hn lx ly si
  have ha_1 := ha.alloc (EI s A n c)
  have hb_1 := hb.alloc (EI s A n c)
  have ba_1 : Sb ((w).alloc (EI s A n c)) (w.heap.size) (.bool s) (.slice A n c) := by have h_ := Sb.new (w) (.bool s) (.slice A n c); exact h_
  have F1 := (Below.refl w.heap.size w).alloc (Nat.le_refl _) (EI s A n c)
  have ha_2 := ha_1.alloc (EI t B m d)
  have hb_2 := hb_1.alloc (EI t B m d)
  have ba_2 := ba_1.alloc (EI t B m d)
  have bb_2 : Sb (((w).alloc (EI s A n c)).alloc (EI t B m d)) (w.heap.size + 1) (.bool t) (.slice B m d) := by have h_ := Sb.new ((w).alloc (EI s A n c)) (.bool t) (.slice B m d); simp only [World.size_alloc] at h_; exact h_
  have F2 := F1.alloc F1.size (EI t B m d)
  go_enter Try.func4, Try.ntmps4
  go_wp2_with fail
  refine (awake_q _).mono ?_
  rintro e w3 ⟨rfl, b3⟩
  have ha_3 := ha_2.below b3
  have hb_3 := hb_2.below b3
  have ba_3 := ba_2.below b3 ba_2.lt
  have bb_3 := bb_2.below b3 bb_2.lt
  have F3 := below_then F2 (Nat.le_refl _) b3
  have ba_u3 := ba_3.cell0
  have ba_v3 := ba_3.cell1
  have bb_u3 := bb_3.cell0
  have bb_v3 := bb_3.cell1
  go_wp2_with fail
  refine (make_q _ _ _ _ _ _ _ _ _ _ p _ HP.out H0.out ha_3 hb_3 e1 e2).mono ?_
  rintro e w4 ⟨s4, A4, n4, c4, B4, m4, d4, rfl, x1, b4⟩
  have ha_4 := ha_3.below b4
  have hb_4 := hb_3.below b4
  have ba_4 := ba_3.below b4 ba_3.lt
  have bb_4 := bb_3.below b4 bb_3.lt
  have F4 := below_then F3 (Nat.le_refl _) b4
  have ba_u4 := ba_4.cell0
  have ba_v4 := ba_4.cell1
  have bb_u4 := bb_4.cell0
  have bb_v4 := bb_4.cell1
  have lt_bx_ba := ba_4.lt
  have lt_bx_bb := bb_4.lt
  have ha_5 := ha_4.alloc (EQ s4 A4 n4 c4 B4 m4 d4)
  have hb_5 := hb_4.alloc (EQ s4 A4 n4 c4 B4 m4 d4)
  have x1_5 := x1.alloc (EQ s4 A4 n4 c4 B4 m4 d4)
  have ba_5 := ba_4.alloc (EQ s4 A4 n4 c4 B4 m4 d4)
  have bb_5 := bb_4.alloc (EQ s4 A4 n4 c4 B4 m4 d4)
  have bx_5 : Sq ((w4).alloc (EQ s4 A4 n4 c4 B4 m4 d4)) (w4.heap.size) (.bool s4) (.slice A4 n4 c4) (.slice B4 m4 d4) := by have h_ := Sq.new (w4) (.bool s4) (.slice A4 n4 c4) (.slice B4 m4 d4); exact h_
  have F5 := F4.alloc F4.size (EQ s4 A4 n4 c4 B4 m4 d4)
  have ba_u5 := ba_5.cell0
  have ba_v5 := ba_5.cell1
  have bb_u5 := bb_5.cell0
  have bb_v5 := bb_5.cell1
  have bx_u5 := bx_5.cell0
  have bx_v5 := bx_5.cell1
  have bx_w5 := bx_5.cell2
  go_wp2_with fail
  refine (rmake_q _ _ _ _ _ _ _ _ _ _ p _ HP.out H0.out ha_5 hb_5 e1 e2).mono ?_
  rintro e w6 ⟨s6, A6, n6, c6, B6, m6, d6, rfl, y1, b6⟩
  have ha_6 := ha_5.below b6
  have hb_6 := hb_5.below b6
  have x1_6 := x1_5.below b6
  have ba_6 := ba_5.below b6 ba_5.lt
  have bb_6 := bb_5.below b6 bb_5.lt
  have bx_6 := bx_5.below b6 bx_5.lt
  have F6 := below_then F5 (Nat.le_refl _) b6
  have ba_u6 := ba_6.cell0
  have ba_v6 := ba_6.cell1
  have bb_u6 := bb_6.cell0
  have bb_v6 := bb_6.cell1
  have bx_u6 := bx_6.cell0
  have bx_v6 := bx_6.cell1
  have bx_w6 := bx_6.cell2
  have lt_by__ba := ba_6.lt
  have lt_by__bb := bb_6.lt
  have lt_by__bx := bx_6.lt
  have ha_7 := ha_6.alloc (EQ s6 A6 n6 c6 B6 m6 d6)
  have hb_7 := hb_6.alloc (EQ s6 A6 n6 c6 B6 m6 d6)
  have x1_7 := x1_6.alloc (EQ s6 A6 n6 c6 B6 m6 d6)
  have y1_7 := y1.alloc (EQ s6 A6 n6 c6 B6 m6 d6)
  have ba_7 := ba_6.alloc (EQ s6 A6 n6 c6 B6 m6 d6)
  have bb_7 := bb_6.alloc (EQ s6 A6 n6 c6 B6 m6 d6)
  have bx_7 := bx_6.alloc (EQ s6 A6 n6 c6 B6 m6 d6)
  have by__7 : Sq ((w6).alloc (EQ s6 A6 n6 c6 B6 m6 d6)) (w6.heap.size) (.bool s6) (.slice A6 n6 c6) (.slice B6 m6 d6) := by have h_ := Sq.new (w6) (.bool s6) (.slice A6 n6 c6) (.slice B6 m6 d6); exact h_
  have F7 := F6.alloc F6.size (EQ s6 A6 n6 c6 B6 m6 d6)
  have ba_u7 := ba_7.cell0
  have ba_v7 := ba_7.cell1
  have bb_u7 := bb_7.cell0
  have bb_v7 := bb_7.cell1
  have bx_u7 := bx_7.cell0
  have bx_v7 := bx_7.cell1
  have bx_w7 := bx_7.cell2
  have by__u7 := by__7.cell0
  have by__v7 := by__7.cell1
  have by__w7 := by__7.cell2
  go_wp2_with fail
  refine (frac_q k 6 v _ HV.out (by omega) k1 k2 (by omega) (by omega)).mono ?_
  rintro e w8 ⟨s8, A8, n8, c8, B8, m8, d8, rfl, z1, b8⟩
  have ha_8 := ha_7.below b8
  have hb_8 := hb_7.below b8
  have x1_8 := x1_7.below b8
  have y1_8 := y1_7.below b8
  have ba_8 := ba_7.below b8 ba_7.lt
  have bb_8 := bb_7.below b8 bb_7.lt
  have bx_8 := bx_7.below b8 bx_7.lt
  have by__8 := by__7.below b8 by__7.lt
  have F8 := below_then F7 (Nat.le_refl _) b8
  have ba_u8 := ba_8.cell0
  have ba_v8 := ba_8.cell1
  have bb_u8 := bb_8.cell0
  have bb_v8 := bb_8.cell1
  have bx_u8 := bx_8.cell0
  have bx_v8 := bx_8.cell1
  have bx_w8 := bx_8.cell2
  have by__u8 := by__8.cell0
  have by__v8 := by__8.cell1
  have by__w8 := by__8.cell2
  have lt_bz_ba := ba_8.lt
  have lt_bz_bb := bb_8.lt
  have lt_bz_bx := bx_8.lt
  have lt_bz_by_ := by__8.lt
  have ha_9 := ha_8.alloc (EQ s8 A8 n8 c8 B8 m8 d8)
  have hb_9 := hb_8.alloc (EQ s8 A8 n8 c8 B8 m8 d8)
  have x1_9 := x1_8.alloc (EQ s8 A8 n8 c8 B8 m8 d8)
  have y1_9 := y1_8.alloc (EQ s8 A8 n8 c8 B8 m8 d8)
  have z1_9 := z1.alloc (EQ s8 A8 n8 c8 B8 m8 d8)
  have ba_9 := ba_8.alloc (EQ s8 A8 n8 c8 B8 m8 d8)
  have bb_9 := bb_8.alloc (EQ s8 A8 n8 c8 B8 m8 d8)
  have bx_9 := bx_8.alloc (EQ s8 A8 n8 c8 B8 m8 d8)
  have by__9 := by__8.alloc (EQ s8 A8 n8 c8 B8 m8 d8)
  have bz_9 : Sq ((w8).alloc (EQ s8 A8 n8 c8 B8 m8 d8)) (w8.heap.size) (.bool s8) (.slice A8 n8 c8) (.slice B8 m8 d8) := by have h_ := Sq.new (w8) (.bool s8) (.slice A8 n8 c8) (.slice B8 m8 d8); exact h_
  have F9 := F8.alloc F8.size (EQ s8 A8 n8 c8 B8 m8 d8)
  skip
  have ba_u9 := ba_9.cell0
  have ba_v9 := ba_9.cell1
  have bb_u9 := bb_9.cell0
  have bb_v9 := bb_9.cell1
  have bx_u9 := bx_9.cell0
  have bx_v9 := bx_9.cell1
  have bx_w9 := bx_9.cell2
  have by__u9 := by__9.cell0
  have by__v9 := by__9.cell1
  have by__w9 := by__9.cell2
  have bz_u9 := bz_9.cell0
  have bz_v9 := bz_9.cell1
  have bz_w9 := bz_9.cell2
  go_wp2_with fail
  refine (frac_q0 k 0 _ rfl k1 k2).mono ?_
  rintro e w10 ⟨s10, A10, n10, c10, B10, m10, d10, rfl, z0, b10⟩
  have ha_10 := ha_9.below b10
  have hb_10 := hb_9.below b10
  have x1_10 := x1_9.below b10
  have y1_10 := y1_9.below b10
  have z1_10 := z1_9.below b10
  have ba_10 := ba_9.below b10 ba_9.lt
  have bb_10 := bb_9.below b10 bb_9.lt
  have bx_10 := bx_9.below b10 bx_9.lt
  have by__10 := by__9.below b10 by__9.lt
  have bz_10 := bz_9.below b10 bz_9.lt
  have F10 := below_then F9 (Nat.le_refl _) b10
  have ba_u10 := ba_10.cell0
  have ba_v10 := ba_10.cell1
  have bb_u10 := bb_10.cell0
  have bb_v10 := bb_10.cell1
  have bx_u10 := bx_10.cell0
  have bx_v10 := bx_10.cell1
  have bx_w10 := bx_10.cell2
  have by__u10 := by__10.cell0
  have by__v10 := by__10.cell1
  have by__w10 := by__10.cell2
  have bz_u10 := bz_10.cell0
  have bz_v10 := bz_10.cell1
  have bz_w10 := bz_10.cell2
  have lt_bz0_ba := ba_10.lt
  have lt_bz0_bb := bb_10.lt
  have lt_bz0_bx := bx_10.lt
  have lt_bz0_by_ := by__10.lt
  have lt_bz0_bz := bz_10.lt
  have ha_11 := ha_10.alloc (EQ s10 A10 n10 c10 B10 m10 d10)
  have hb_11 := hb_10.alloc (EQ s10 A10 n10 c10 B10 m10 d10)
  have x1_11 := x1_10.alloc (EQ s10 A10 n10 c10 B10 m10 d10)
  have y1_11 := y1_10.alloc (EQ s10 A10 n10 c10 B10 m10 d10)
  have z1_11 := z1_10.alloc (EQ s10 A10 n10 c10 B10 m10 d10)
  have ba_11 := ba_10.alloc (EQ s10 A10 n10 c10 B10 m10 d10)
  have bb_11 := bb_10.alloc (EQ s10 A10 n10 c10 B10 m10 d10)
  have bx_11 := bx_10.alloc (EQ s10 A10 n10 c10 B10 m10 d10)
  have by__11 := by__10.alloc (EQ s10 A10 n10 c10 B10 m10 d10)
  have bz_11 := bz_10.alloc (EQ s10 A10 n10 c10 B10 m10 d10)
  have bz0_11 : Sq ((w10).alloc (EQ s10 A10 n10 c10 B10 m10 d10)) (w10.heap.size) (.bool s10) (.slice A10 n10 c10) (.slice B10 m10 d10) := by have h_ := Sq.new (w10) (.bool s10) (.slice A10 n10 c10) (.slice B10 m10 d10); exact h_
  have F11 := F10.alloc F10.size (EQ s10 A10 n10 c10 B10 m10 d10)
  have lx1 := x1_11.tiny6 sp (by omega)
  have lz1 := z1_11.small sv (by omega)
  go_upto_region 9 with fail
  go_cut [15] (fun sx11 wy => ∃ (wx11 : World) (g : Nat) (s13 : Bool) (A13 : Option Addr) (n13 : Nat) (c13 : Nat) (B13 : Option Addr) (m13 : Nat) (d13 : Nat) (s14 : Bool) (A14 : Option Addr) (n14 : Nat) (c14 : Nat) (B14 : Option Addr) (m14 : Nat) (d14 : Nat), wx11 = wy ∧ sx11 = .pointer (some ⟨g, 0, none⟩) ∧ Sq wx11 g (.bool s14) (.slice A14 n14 c14) (.slice B14 m14 d14) ∧ w.heap.size ≤ g ∧ w4.heap.size < g ∧ w6.heap.size < g ∧ w8.heap.size < g ∧ Sq wx11 (w4.heap.size) (.bool s4) (.slice A4 n4 c4) (.slice B4 m4 d4) ∧ Sq wx11 (w6.heap.size) (.bool s6) (.slice A6 n6 c6) (.slice B6 m6 d6) ∧ Sq wx11 (w8.heap.size) (.bool s8) (.slice A8 n8 c8) (.slice B8 m8 d8) ∧ Cq wx11 s4 A4 n4 c4 B4 m4 d4 p ∧ Cq wx11 s6 A6 n6 c6 B6 m6 d6 p ∧ Cq wx11 s8 A8 n8 c8 B8 m8 d8 v ∧ Cq wx11 s14 A14 n14 c14 B14 m14 d14 (k : Rat) ∧ Below w.heap.size w wx11)
  case first =>
    have x1_12 := x1_11.drew
    have y1_12 := y1_11.drew
    have z1_12 := z1_11.drew
    have bx_12 := bx_11.drew
    have by__12 := by__11.drew
    have bz_12 := bz_11.drew
    have F12 := F11.drew
    have x1_z0 := (x1_11.alloc EQ0).drew
    have y1_z0 := (y1_11.alloc EQ0).drew
    have z1_z0 := (z1_11.alloc EQ0).drew
    have bx_z0 := (bx_11.alloc EQ0).drew
    have by__z0 := (by__11.alloc EQ0).drew
    have bz_z0 := (bz_11.alloc EQ0).drew
    have lz_bx : w4.heap.size < w10.heap.size + 1 := by omega
    have lz_by_ : w6.heap.size < w10.heap.size + 1 := by omega
    have lz_bz : w8.heap.size < w10.heap.size + 1 := by omega
    have gl : w.heap.size ≤ w10.heap.size + 1 := by omega
    have F_z0 := (F11.alloc F11.size EQ0).drew
    have zb_0 : Sq (((w10).alloc (EQ s10 A10 n10 c10 B10 m10 d10)).alloc EQ0).drew (w10.heap.size + 1) (.bool false) (.slice none 0 0) (.slice none 0 0) := by have h_ := Sq.new ((w10).alloc (EQ s10 A10 n10 c10 B10 m10 d10)) (.bool false) (.slice none 0 0) (.slice none 0 0); simp only [World.size_alloc] at h_; exact h_.drew
    go_region_held3 (fun w' => w'.cell? ⟨w8.heap.size, 0, none⟩ = some (.bool s8) ∧ w'.cell? ⟨w8.heap.size, 1, none⟩ = some (.slice A8 n8 c8) ∧ w'.cell? ⟨w8.heap.size, 2, none⟩ = some (.slice B8 m8 d8))
      (first
        | with_reducible exact ⟨(bz_14.alloc (EQ s14 A14 n14 c14 B14 m14 d14)).cell0, (bz_14.alloc (EQ s14 A14 n14 c14 B14 m14 d14)).cell1, (bz_14.alloc (EQ s14 A14 n14 c14 B14 m14 d14)).cell2⟩
        | with_reducible exact ⟨(bz_14.past (u0 := .bool s14) (u1 := .slice A14 n14 c14) (u2 := .slice B14 m14 d14) (Nat.ne_of_lt lz_bz)).cell0, (bz_14.past (u0 := .bool s14) (u1 := .slice A14 n14 c14) (u2 := .slice B14 m14 d14) (Nat.ne_of_lt lz_bz)).cell1, (bz_14.past (u0 := .bool s14) (u1 := .slice A14 n14 c14) (u2 := .slice B14 m14 d14) (Nat.ne_of_lt lz_bz)).cell2⟩
        | with_reducible exact ⟨(bz_14.alloc EQ0).cell0, (bz_14.alloc EQ0).cell1, (bz_14.alloc EQ0).cell2⟩
        | with_reducible exact ⟨bz_14.cell0, bz_14.cell1, bz_14.cell2⟩
        | with_reducible exact ⟨bz_13.alloc EQ0 |>.cell0, bz_13.alloc EQ0 |>.cell1, bz_13.alloc EQ0 |>.cell2⟩
        | with_reducible exact ⟨(bz_13.alloc EQ0).cell0, (bz_13.alloc EQ0).cell1, (bz_13.alloc EQ0).cell2⟩
        | with_reducible exact ⟨bz_13.cell0, bz_13.cell1, bz_13.cell2⟩
        | with_reducible exact ⟨bz_z0.cell0, bz_z0.cell1, bz_z0.cell2⟩
        | with_reducible exact ⟨bz_12.cell0, bz_12.cell1, bz_12.cell2⟩
        | fail)
      (first
        | (go_at_call 31; (with_reducible refine (of_q 6 _ (by omega) (by omega)).mono ?_); rintro e w13 ⟨s13, A13, n13, c13, B13, m13, d13, rfl, six, b13⟩; have x1_13 := x1_12.below b13; have y1_13 := y1_12.below b13; have z1_13 := z1_12.below b13; have bx_13 := bx_12.below b13 bx_12.lt; have by__13 := by__12.below b13 by__12.lt; have bz_13 := bz_12.below b13 bz_12.lt; have F13 := below_then F12 (Nat.le_refl _) b13; have l6 := six.small hs6 (by omega))
        | (go_at_call 31; (with_reducible refine (of_q 6 _ (by omega) (by omega)).mono ?_); rintro e w13 ⟨s13, A13, n13, c13, B13, m13, d13, rfl, six, b13⟩; have x1_13 := x1_z0.below b13; have y1_13 := y1_z0.below b13; have z1_13 := z1_z0.below b13; have bx_13 := bx_z0.below b13 bx_z0.lt; have by__13 := by__z0.below b13 by__z0.lt; have bz_13 := bz_z0.below b13 bz_z0.lt; have F13 := below_then F_z0 (Nat.le_refl _) b13; have zb_13 := zb_0.below b13 zb_0.lt; have l6 := six.small hs6 (by omega))
        | (go_at_call 30; (with_reducible refine (mul_q _ _ _ _ _ _ _ _ _ _ _ _ _ _ _ _ _ _ HM.out z1_13.iq six.iq lz1.1 lz1.2 l6.1 l6.2).mono ?_); rintro e w14 ⟨s14, A14, n14, c14, B14, m14, d14, rfl, w6_, b14⟩; have x1_14 := x1_13.below b14; have y1_14 := y1_13.below b14; have z1_14 := z1_13.below b14; have six_14 := six.below b14; have bx_14 := bx_13.below b14 bx_13.lt; have by__14 := by__13.below b14 by__13.lt; have bz_14 := bz_13.below b14 bz_13.lt; have F14 := below_then F13 (Nat.le_refl _) b14; have zb_14 := zb_13.below b14 zb_13.lt; have zk14_0 := zb_14.cell0; have zk14_1 := zb_14.cell1; have zk14_2 := zb_14.cell2; have zf14_0 := zb_14.frozen 0; have zf14_1 := zb_14.frozen 1; have zf14_2 := zb_14.frozen 2)
        | (go_at_call 30; (with_reducible refine (mul_q _ _ _ _ _ _ _ _ _ _ _ _ _ _ _ _ _ _ HM.out z1_13.iq six.iq lz1.1 lz1.2 l6.1 l6.2).mono ?_); rintro e w14 ⟨s14, A14, n14, c14, B14, m14, d14, rfl, w6_, b14⟩; have x1_14 := x1_13.below b14; have y1_14 := y1_13.below b14; have z1_14 := z1_13.below b14; have six_14 := six.below b14; have bx_14 := bx_13.below b14 bx_13.lt; have by__14 := by__13.below b14 by__13.lt; have bz_14 := bz_13.below b14 bz_13.lt; have F14 := below_then F13 (Nat.le_refl _) b14)
        | (have x1_z14 := x1_13.alloc EQ0; have y1_z14 := y1_13.alloc EQ0; have z1_z14 := z1_13.alloc EQ0; have six_z14 := six.alloc EQ0; have bx_z14 := bx_13.alloc EQ0; have by__z14 := by__13.alloc EQ0; have bz_z14 := bz_13.alloc EQ0; have lz_bx := bx_13.lt; have lz_by_ := by__13.lt; have lz_bz := bz_13.lt; have gl := F13.size; have F_z14 := F13.alloc F13.size EQ0; have zb_13 := Sq.new (w13) (.bool false) (.slice none 0 0) (.slice none 0 0); go_at_call 30; (with_reducible refine (mul_q _ _ _ _ _ _ _ _ _ _ _ _ _ _ _ _ _ _ HM.out z1_z14.iq six_z14.iq lz1.1 lz1.2 l6.1 l6.2).mono ?_); rintro e w14 ⟨s14, A14, n14, c14, B14, m14, d14, rfl, w6_, b14⟩; have x1_14 := x1_z14.below b14; have y1_14 := y1_z14.below b14; have z1_14 := z1_z14.below b14; have six_14 := six_z14.below b14; have bx_14 := bx_z14.below b14 bx_z14.lt; have by__14 := by__z14.below b14 by__z14.lt; have bz_14 := bz_z14.below b14 bz_z14.lt; have F14 := below_then F_z14 (Nat.le_refl _) b14; have zb_14 := zb_13.below b14 zb_13.lt; have zk14_0 := zb_14.cell0; have zk14_1 := zb_14.cell1; have zk14_2 := zb_14.cell2; have zf14_0 := zb_14.frozen 0; have zf14_1 := zb_14.frozen 1; have zf14_2 := zb_14.frozen 2)
        | fail)
    all_goals (go_wp2_with fail; go_meet; first | exact ⟨_, _, s13, A13, n13, c13, B13, m13, d13, s14, A14, n14, c14, B14, m14, d14, rfl, rfl, zb_14.stor, gl, lz_bx, lz_by_, lz_bz, bx_14.past (Nat.ne_of_lt lz_bx), by__14.past (Nat.ne_of_lt lz_by_), bz_14.past (Nat.ne_of_lt lz_bz), x1_14.storQ zb_14 (.bool s14) (.slice A14 n14 c14) (.slice B14 m14 d14), y1_14.storQ zb_14 (.bool s14) (.slice A14 n14 c14) (.slice B14 m14 d14), z1_14.storQ zb_14 (.bool s14) (.slice A14 n14 c14) (.slice B14 m14 d14), w6_.storQ zb_14 (.bool s14) (.slice A14 n14 c14) (.slice B14 m14 d14), below_storQ F14 gl⟩ | exact ⟨_, _, s13, A13, n13, c13, B13, m13, d13, s14, A14, n14, c14, B14, m14, d14, rfl, rfl, Sq.new w14 (.bool s14) (.slice A14 n14 c14) (.slice B14 m14 d14), F14.size, bx_14.lt, by__14.lt, bz_14.lt, bx_14.alloc (EQ s14 A14 n14 c14 B14 m14 d14), by__14.alloc (EQ s14 A14 n14 c14 B14 m14 d14), bz_14.alloc (EQ s14 A14 n14 c14 B14 m14 d14), x1_14.alloc (EQ s14 A14 n14 c14 B14 m14 d14), y1_14.alloc (EQ s14 A14 n14 c14 B14 m14 d14), z1_14.alloc (EQ s14 A14 n14 c14 B14 m14 d14), w6_.alloc (EQ s14 A14 n14 c14 B14 m14 d14), F14.alloc F14.size _⟩ | fail)
  case rest =>
    obtain ⟨wx11, g15, s13, A13, n13, c13, B13, m13, d13, s14, A14, n14, c14, B14, m14, d14, rfl, rfl, bs6_15, gl_15, lt_bs6_bx, lt_bs6_by_, lt_bs6_bz, bx_15, by__15, bz_15, x1_15, y1_15, z1_15, w6__15, F15⟩ := hcut
    have lw6 := w6__15.tiny6 sk (by omega)
    go_wp2_with fail
    have x1_16 := x1_15.drew
    have y1_16 := y1_15.drew
    have z1_16 := z1_15.drew
    have w6__16 := w6__15.drew
    have bx_16 := bx_15.drew
    have by__16 := by__15.drew
    have bz_16 := bz_15.drew
    have bs6_16 := bs6_15.drew
    have F16 := F15.drew
    go_region_held3 (fun w' => w'.cell? ⟨w4.heap.size, 0, none⟩ = some (.bool s4) ∧ w'.cell? ⟨w4.heap.size, 1, none⟩ = some (.slice A4 n4 c4) ∧ w'.cell? ⟨w4.heap.size, 2, none⟩ = some (.slice B4 m4 d4) ∧ w'.cell? ⟨w6.heap.size, 0, none⟩ = some (.bool s6) ∧ w'.cell? ⟨w6.heap.size, 1, none⟩ = some (.slice A6 n6 c6) ∧ w'.cell? ⟨w6.heap.size, 2, none⟩ = some (.slice B6 m6 d6) ∧ w'.cell? ⟨w8.heap.size, 0, none⟩ = some (.bool s8) ∧ w'.cell? ⟨w8.heap.size, 1, none⟩ = some (.slice A8 n8 c8) ∧ w'.cell? ⟨w8.heap.size, 2, none⟩ = some (.slice B8 m8 d8) ∧ w'.cell? ⟨g15, 0, none⟩ = some (.bool s14) ∧ w'.cell? ⟨g15, 1, none⟩ = some (.slice A14 n14 c14) ∧ w'.cell? ⟨g15, 2, none⟩ = some (.slice B14 m14 d14))
      (first
        | with_reducible exact ⟨bx_22.cell0, bx_22.cell1, bx_22.cell2, by__22.cell0, by__22.cell1, by__22.cell2, bz_22.cell0, bz_22.cell1, bz_22.cell2, bs6_22.cell0, bs6_22.cell1, bs6_22.cell2⟩
        | with_reducible exact ⟨bx_21.cell0, bx_21.cell1, bx_21.cell2, by__21.cell0, by__21.cell1, by__21.cell2, bz_21.cell0, bz_21.cell1, bz_21.cell2, bs6_21.cell0, bs6_21.cell1, bs6_21.cell2⟩
        | with_reducible exact ⟨bx_20.cell0, bx_20.cell1, bx_20.cell2, by__20.cell0, by__20.cell1, by__20.cell2, bz_20.cell0, bz_20.cell1, bz_20.cell2, bs6_20.cell0, bs6_20.cell1, bs6_20.cell2⟩
        | with_reducible exact ⟨bx_19.cell0, bx_19.cell1, bx_19.cell2, by__19.cell0, by__19.cell1, by__19.cell2, bz_19.cell0, bz_19.cell1, bz_19.cell2, bs6_19.cell0, bs6_19.cell1, bs6_19.cell2⟩
        | with_reducible exact ⟨bx_18.cell0, bx_18.cell1, bx_18.cell2, by__18.cell0, by__18.cell1, by__18.cell2, bz_18.cell0, bz_18.cell1, bz_18.cell2, bs6_18.cell0, bs6_18.cell1, bs6_18.cell2⟩
        | with_reducible exact ⟨bx_17.cell0, bx_17.cell1, bx_17.cell2, by__17.cell0, by__17.cell1, by__17.cell2, bz_17.cell0, bz_17.cell1, bz_17.cell2, bs6_17.cell0, bs6_17.cell1, bs6_17.cell2⟩
        | with_reducible exact ⟨bx_16.cell0, bx_16.cell1, bx_16.cell2, by__16.cell0, by__16.cell1, by__16.cell2, bz_16.cell0, bz_16.cell1, bz_16.cell2, bs6_16.cell0, bs6_16.cell1, bs6_16.cell2⟩
        | fail)
      (first
        | (go_at_call 15; (with_reducible refine (same_q _ _ _ _ _ _ _ _ _ _ _ _ _ _ _ _ x1_16 y1_16 lx1.1 lx1.2).mono ?_); rintro e w17 ⟨rfl, b17⟩; have x1_17 := x1_16.below b17; have y1_17 := y1_16.below b17; have z1_17 := z1_16.below b17; have w6__17 := w6__16.below b17; have bx_17 := bx_16.below b17 bx_16.lt; have by__17 := by__16.below b17 by__16.lt; have bz_17 := bz_16.below b17 bz_16.lt; have bs6_17 := bs6_16.below b17 bs6_16.lt; have F17 := below_then F16 (Nat.le_refl _) b17)
        | (go_at_call 31; (with_reducible refine (of_q k _ k1 k2).mono ?_); rintro e w18 ⟨s18, A18, n18, c18, B18, m18, d18, rfl, g1, b18⟩; have x1_18 := x1_17.below b18; have y1_18 := y1_17.below b18; have z1_18 := z1_17.below b18; have w6__18 := w6__17.below b18; have bx_18 := bx_17.below b18 bx_17.lt; have by__18 := by__17.below b18 by__17.lt; have bz_18 := bz_17.below b18 bz_17.lt; have bs6_18 := bs6_17.below b18 bs6_17.lt; have F18 := below_then F17 (Nat.le_refl _) b18; have lg1 := g1.tiny6 sk (by omega))
        | (go_at_call 32; (with_reducible refine (rof_q k _ k1 k2).mono ?_); rintro e w19 ⟨s19, A19, n19, c19, B19, m19, d19, rfl, g2, b19⟩; have x1_19 := x1_18.below b19; have y1_19 := y1_18.below b19; have z1_19 := z1_18.below b19; have w6__19 := w6__18.below b19; have g1_19 := g1.below b19; have bx_19 := bx_18.below b19 bx_18.lt; have by__19 := by__18.below b19 by__18.lt; have bz_19 := bz_18.below b19 bz_18.lt; have bs6_19 := bs6_18.below b19 bs6_18.lt; have F19 := below_then F18 (Nat.le_refl _) b19)
        | (go_at_call 15; (with_reducible refine (same_q _ _ _ _ _ _ _ _ _ _ _ _ _ _ _ _ g1_19 g2 lg1.1 lg1.2).mono ?_); rintro e w20 ⟨rfl, b20⟩; have x1_20 := x1_19.below b20; have y1_20 := y1_19.below b20; have z1_20 := z1_19.below b20; have w6__20 := w6__19.below b20; have g1_20 := g1_19.below b20; have g2_20 := g2.below b20; have bx_20 := bx_19.below b20 bx_19.lt; have by__20 := by__19.below b20 by__19.lt; have bz_20 := bz_19.below b20 bz_19.lt; have bs6_20 := bs6_19.below b20 bs6_19.lt; have F20 := below_then F19 (Nat.le_refl _) b20)
        | (go_at_call 32; (with_reducible refine (rof_q k _ k1 k2).mono ?_); rintro e w21 ⟨s21, A21, n21, c21, B21, m21, d21, rfl, g3_, b21⟩; have x1_21 := x1_20.below b21; have y1_21 := y1_20.below b21; have z1_21 := z1_20.below b21; have w6__21 := w6__20.below b21; have g1_21 := g1_20.below b21; have g2_21 := g2_20.below b21; have bx_21 := bx_20.below b21 bx_20.lt; have by__21 := by__20.below b21 by__20.lt; have bz_21 := bz_20.below b21 bz_20.lt; have bs6_21 := bs6_20.below b21 bs6_20.lt; have F21 := below_then F20 (Nat.le_refl _) b21)
        | (go_at_call 15; (with_reducible refine (same_q _ _ _ _ _ _ _ _ _ _ _ _ _ _ _ _ w6__21 g3_ lw6.1 lw6.2).mono ?_); rintro e w22 ⟨rfl, b22⟩; have x1_22 := x1_21.below b22; have y1_22 := y1_21.below b22; have z1_22 := z1_21.below b22; have w6__22 := w6__21.below b22; have g1_22 := g1_21.below b22; have g2_22 := g2_21.below b22; have g3__22 := g3_.below b22; have bx_22 := bx_21.below b22 bx_21.lt; have by__22 := by__21.below b22 by__21.lt; have bz_22 := bz_21.below b22 bz_21.lt; have bs6_22 := bs6_21.below b22 bs6_21.lt; have F22 := below_then F21 (Nat.le_refl _) b22)
        | fail)
    have bx_u22 := bx_22.cell0
    have bx_v22 := bx_22.cell1
    have bx_w22 := bx_22.cell2
    have by__u22 := by__22.cell0
    have by__v22 := by__22.cell1
    have by__w22 := by__22.cell2
    have bz_u22 := bz_22.cell0
    have bz_v22 := bz_22.cell1
    have bz_w22 := bz_22.cell2
    have bs6_u22 := bs6_22.cell0
    have bs6_v22 := bs6_22.cell1
    have bs6_w22 := bs6_22.cell2
    go_wp2
    go_ret
    exact ⟨rfl, F22⟩
end Go.Proofs.Ytabgniijlofapaa
