/-
  The walk of IntegerDivide.
-/
import Derived.Test.YtefcpcekoihgjaaMakeILaw
import Derived.Deep.RegionHeld3
namespace Go.Proofs.Ytefcpcekoihgjaa
open Go.RowKit
set_option linter.unusedVariables false
set_option linter.unusedSimpArgs false

theorem law_div_long (sa sb : Bool) (Aa Ab : Option Addr) (na nb_ ca cb : Nat) (w : World) (hn : ¬ (na ≤ 6 ∧ nb_ ≤ 6)) :
    Calls Try.prog 8 #[.agg #[.bool sa, .slice Aa na ca], .agg #[.bool sb, .slice Ab nb_ cb]] w fun e w' => e = .returned (.bool true) ∧ Below w.heap.size w w' := by
  by_cases h1 : na ≤ 6
  · have d1 : decide ((6 : Int) < (na : Int)) = false := by simp; omega
    have d2 : decide ((6 : Int) < (nb_ : Int)) = true := by simp; omega
    clear hn h1
    have ba_1 : Sb ((w).alloc (EI sa Aa na ca)) (w.heap.size) (.bool sa) (.slice Aa na ca) := by have h_ := Sb.new (w) (.bool sa) (.slice Aa na ca); exact h_
    have F1 := (Below.refl w.heap.size w).alloc (Nat.le_refl _) (EI sa Aa na ca)
    have ba_2 := ba_1.alloc (EI sb Ab nb_ cb)
    have bb_2 : Sb (((w).alloc (EI sa Aa na ca)).alloc (EI sb Ab nb_ cb)) (w.heap.size + 1) (.bool sb) (.slice Ab nb_ cb) := by have h_ := Sb.new ((w).alloc (EI sa Aa na ca)) (.bool sb) (.slice Ab nb_ cb); simp only [World.size_alloc] at h_; exact h_
    have F2 := F1.alloc F1.size (EI sb Ab nb_ cb)
    go_enter Try.func8, Try.ntmps8
    go_wp2_with fail
    refine (awake_int _).mono ?_
    rintro e w3 ⟨rfl, b3⟩
    have ba_3 := ba_2.below b3 ba_2.lt
    have bb_3 := bb_2.below b3 bb_2.lt
    have F3 := below_then F2 (Nat.le_refl _) b3
    have ba_u3 := ba_3.cell0
    have ba_v3 := ba_3.cell1
    have bb_u3 := bb_3.cell0
    have bb_v3 := bb_3.cell1
    go_wp2
    go_ret
    exact ⟨rfl, F3⟩
  · have d1 : decide ((6 : Int) < (na : Int)) = true := by simp; omega
    clear hn h1
    have ba_1 : Sb ((w).alloc (EI sa Aa na ca)) (w.heap.size) (.bool sa) (.slice Aa na ca) := by have h_ := Sb.new (w) (.bool sa) (.slice Aa na ca); exact h_
    have F1 := (Below.refl w.heap.size w).alloc (Nat.le_refl _) (EI sa Aa na ca)
    have ba_2 := ba_1.alloc (EI sb Ab nb_ cb)
    have bb_2 : Sb (((w).alloc (EI sa Aa na ca)).alloc (EI sb Ab nb_ cb)) (w.heap.size + 1) (.bool sb) (.slice Ab nb_ cb) := by have h_ := Sb.new ((w).alloc (EI sa Aa na ca)) (.bool sb) (.slice Ab nb_ cb); simp only [World.size_alloc] at h_; exact h_
    have F2 := F1.alloc F1.size (EI sb Ab nb_ cb)
    go_enter Try.func8, Try.ntmps8
    go_wp2_with fail
    refine (awake_int _).mono ?_
    rintro e w3 ⟨rfl, b3⟩
    have ba_3 := ba_2.below b3 ba_2.lt
    have bb_3 := bb_2.below b3 bb_2.lt
    have F3 := below_then F2 (Nat.le_refl _) b3
    have ba_u3 := ba_3.cell0
    have ba_v3 := ba_3.cell1
    have bb_u3 := bb_3.cell0
    have bb_v3 := bb_3.cell1
    go_wp2
    go_ret
    exact ⟨rfl, F3⟩
theorem cz_zero (w : World) : Cz w false none 0 0 0 := ⟨Rd.empty _ _ _, rfl⟩
set_option maxHeartbeats 1000000 in
theorem law_div_zero (sa sb : Bool) (Aa Ab : Option Addr) (na nb_ ca cb : Nat) (x y : Int) (w : World) (ha : Iz w sa Aa na ca x) (hb : Iz w sb Ab nb_ cb y) (hn : na ≤ 6 ∧ nb_ ≤ 6) (h0 : y = 0) :
    Calls Try.prog 8 #[.agg #[.bool sa, .slice Aa na ca], .agg #[.bool sb, .slice Ab nb_ cb]] w fun e w' => e = .returned (.bool true) ∧ Below w.heap.size w w' := by
  have d1 : decide ((6 : Int) < (na : Int)) = false := by simp; omega
  have d2 : decide ((6 : Int) < (nb_ : Int)) = false := by simp; omega
  have na3 : na ≤ 65536 := by omega
  have nb3 : nb_ ≤ 65536 := by omega
  have nb4 : nb_ ≤ 1048576 := by omega
  have HS := hide (show sz y = 0 by rw [h0]; rfl)
  have H0 := hide h0
  have l0 : (0 : Int).natAbs < pw 60 := by decide
  clear hn h0
  have ha_1 := ha.alloc (EI sa Aa na ca)
  have hb_1 := hb.alloc (EI sa Aa na ca)
  have ba_1 : Sb ((w).alloc (EI sa Aa na ca)) (w.heap.size) (.bool sa) (.slice Aa na ca) := by have h_ := Sb.new (w) (.bool sa) (.slice Aa na ca); exact h_
  have F1 := (Below.refl w.heap.size w).alloc (Nat.le_refl _) (EI sa Aa na ca)
  have ha_2 := ha_1.alloc (EI sb Ab nb_ cb)
  have hb_2 := hb_1.alloc (EI sb Ab nb_ cb)
  have ba_2 := ba_1.alloc (EI sb Ab nb_ cb)
  have bb_2 : Sb (((w).alloc (EI sa Aa na ca)).alloc (EI sb Ab nb_ cb)) (w.heap.size + 1) (.bool sb) (.slice Ab nb_ cb) := by have h_ := Sb.new ((w).alloc (EI sa Aa na ca)) (.bool sb) (.slice Ab nb_ cb); simp only [World.size_alloc] at h_; exact h_
  have F2 := F1.alloc F1.size (EI sb Ab nb_ cb)
  go_enter Try.func8, Try.ntmps8
  go_wp2_with fail
  refine (awake_int _).mono ?_
  rintro e w3 ⟨rfl, b3⟩
  have ha_3 := ha_2.below b3
  have hb_3 := hb_2.below b3
  have ba_3 := ba_2.below b3 ba_2.lt
  have bb_3 := bb_2.below b3 bb_2.lt
  have F3 := below_then F2 (Nat.le_refl _) b3
  have ba_u3 := ba_3.cell0
  have ba_v3 := ba_3.cell1
  have bb_u3 := bb_3.cell0
  have bb_v3 := bb_3.cell1
  go_wp2_with fail
  refine (divmod_int0 _ _ _ _ _ _ _ _ _ _ _ H0.out ha_3 hb_3 na3 nb3).mono ?_
  rintro e w4 ⟨s4, A4, n4, c4, t4, B4, m4, d4, rfl, q, r, b4⟩
  have ha_4 := ha_3.below b4
  have hb_4 := hb_3.below b4
  have ba_4 := ba_3.below b4 ba_3.lt
  have bb_4 := bb_3.below b4 bb_3.lt
  have F4 := below_then F3 (Nat.le_refl _) b4
  have ba_u4 := ba_4.cell0
  have ba_v4 := ba_4.cell1
  have bb_u4 := bb_4.cell0
  have bb_v4 := bb_4.cell1
  have ha_5 := ha_4.alloc (EI s4 A4 n4 c4)
  have hb_5 := hb_4.alloc (EI s4 A4 n4 c4)
  have q_5 := q.alloc (EI s4 A4 n4 c4)
  have r_5 := r.alloc (EI s4 A4 n4 c4)
  have ba_5 := ba_4.alloc (EI s4 A4 n4 c4)
  have bb_5 := bb_4.alloc (EI s4 A4 n4 c4)
  have bq_5 : Sb ((w4).alloc (EI s4 A4 n4 c4)) (w4.heap.size) (.bool s4) (.slice A4 n4 c4) := by have h_ := Sb.new (w4) (.bool s4) (.slice A4 n4 c4); exact h_
  have F5 := F4.alloc F4.size (EI s4 A4 n4 c4)
  have ha_6 := ha_5.alloc (EI t4 B4 m4 d4)
  have hb_6 := hb_5.alloc (EI t4 B4 m4 d4)
  have q_6 := q_5.alloc (EI t4 B4 m4 d4)
  have r_6 := r_5.alloc (EI t4 B4 m4 d4)
  have ba_6 := ba_5.alloc (EI t4 B4 m4 d4)
  have bb_6 := bb_5.alloc (EI t4 B4 m4 d4)
  have bq_6 := bq_5.alloc (EI t4 B4 m4 d4)
  have br_6 : Sb (((w4).alloc (EI s4 A4 n4 c4)).alloc (EI t4 B4 m4 d4)) (w4.heap.size + 1) (.bool t4) (.slice B4 m4 d4) := by have h_ := Sb.new ((w4).alloc (EI s4 A4 n4 c4)) (.bool t4) (.slice B4 m4 d4); simp only [World.size_alloc] at h_; exact h_
  have F6 := F5.alloc F5.size (EI t4 B4 m4 d4)
  have ba_u6 := ba_6.cell0
  have ba_v6 := ba_6.cell1
  have bb_u6 := bb_6.cell0
  have bb_v6 := bb_6.cell1
  have bq_u6 := bq_6.cell0
  have bq_v6 := bq_6.cell1
  have br_u6 := br_6.cell0
  have br_v6 := br_6.cell1
  go_wp2_with fail
  refine (rsign_int _ _ _ _ _ 0 _ HS.out hb_6 nb4).mono ?_
  rintro e w7 ⟨rfl, b7⟩
  have ha_7 := ha_6.below b7
  have hb_7 := hb_6.below b7
  have q_7 := q_6.below b7
  have r_7 := r_6.below b7
  have ba_7 := ba_6.below b7 ba_6.lt
  have bb_7 := bb_6.below b7 bb_6.lt
  have bq_7 := bq_6.below b7 bq_6.lt
  have br_7 := br_6.below b7 br_6.lt
  have F7 := below_then F6 (Nat.le_refl _) b7
  have ba_u7 := ba_7.cell0
  have ba_v7 := ba_7.cell1
  have bb_u7 := bb_7.cell0
  have bb_v7 := bb_7.cell1
  have bq_u7 := bq_7.cell0
  have bq_v7 := bq_7.cell1
  have br_u7 := br_7.cell0
  have br_v7 := br_7.cell1
  go_wp2_with fail
  refine (same_int _ _ _ _ _ _ _ _ _ _ q_7 (cz_zero _) (q_7.l3 l0)).mono ?_
  rintro e w8 ⟨rfl, b8⟩
  have ha_8 := ha_7.below b8
  have hb_8 := hb_7.below b8
  have q_8 := q_7.below b8
  have r_8 := r_7.below b8
  have ba_8 := ba_7.below b8 ba_7.lt
  have bb_8 := bb_7.below b8 bb_7.lt
  have bq_8 := bq_7.below b8 bq_7.lt
  have br_8 := br_7.below b8 br_7.lt
  have F8 := below_then F7 (Nat.le_refl _) b8
  have ba_u8 := ba_8.cell0
  have ba_v8 := ba_8.cell1
  have bb_u8 := bb_8.cell0
  have bb_v8 := bb_8.cell1
  have bq_u8 := bq_8.cell0
  have bq_v8 := bq_8.cell1
  have br_u8 := br_8.cell0
  have br_v8 := br_8.cell1
  go_wp2_with fail
  refine (same_int _ _ _ _ _ _ _ _ _ _ r_8 (cz_zero _) (r_8.l3 l0)).mono ?_
  rintro e w9 ⟨rfl, b9⟩
  have ha_9 := ha_8.below b9
  have hb_9 := hb_8.below b9
  have q_9 := q_8.below b9
  have r_9 := r_8.below b9
  have ba_9 := ba_8.below b9 ba_8.lt
  have bb_9 := bb_8.below b9 bb_8.lt
  have bq_9 := bq_8.below b9 bq_8.lt
  have br_9 := br_8.below b9 br_8.lt
  have F9 := below_then F8 (Nat.le_refl _) b9
  have ba_u9 := ba_9.cell0
  have ba_v9 := ba_9.cell1
  have bb_u9 := bb_9.cell0
  have bb_v9 := bb_9.cell1
  have bq_u9 := bq_9.cell0
  have bq_v9 := bq_9.cell1
  have br_u9 := br_9.cell0
  have br_v9 := br_9.cell1
  go_wp2
  go_ret
  exact ⟨rfl, F9⟩
set_option maxHeartbeats 1000000 in
theorem law_div (sa sb : Bool) (Aa Ab : Option Addr) (na nb_ ca cb : Nat) (x y : Int) (ys : List Nat) (w : World) (ha : Iz w sa Aa na ca x) (hy : Rd w Ab nb_ cb ys) (ey : iv sb ys = y) (hn : na ≤ 6 ∧ nb_ ≤ 6) (h0 : y ≠ 0) :
    Calls Try.prog 8 #[.agg #[.bool sa, .slice Aa na ca], .agg #[.bool sb, .slice Ab nb_ cb]] w fun e w' => e = .returned (.bool true) ∧ Below w.heap.size w w' := by
  have d1 : decide ((6 : Int) < (na : Int)) = false := by simp; omega
  have d2 : decide ((6 : Int) < (nb_ : Int)) = false := by simp; omega
  have na3 : na ≤ 65536 := by omega
  have nb3 : nb_ ≤ 65536 := by omega
  have nb4 : nb_ ≤ 1048576 := by omega
  have na2 : na ≤ 65535 := by omega
  have hb : Iz w sb Ab nb_ cb y := ⟨ys, hy, ey⟩
  obtain ⟨Q, hQ⟩ : ∃ Q, x / y = Q := ⟨_, rfl⟩
  obtain ⟨R, hR⟩ : ∃ R, x % y = R := ⟨_, rfl⟩
  have e1 : Q * y + R = x := by rw [← hQ, ← hR, Int.mul_comm]; exact Int.mul_ediv_add_emod x y
  have r1 : 0 ≤ R := by rw [← hR]; exact Int.emod_nonneg x h0
  have r2 : R.natAbs < y.natAbs := by have := Int.emod_lt x h0; omega
  have q1 : Q.natAbs ≤ x.natAbs := by rw [← hQ]; exact Int.natAbs_ediv_le_natAbs x y
  have lx := ha.abs hn.1
  have ly := hb.abs hn.2
  have lq := pw_lt (k := 60) (Nat.lt_of_le_of_lt q1 lx) (by decide)
  have lr := pw_lt (k := 60) (Nat.lt_trans r2 ly) (by decide)
  have lx2 := pw_lt (k := 60) lx (by decide)
  have lqy : (Q * y).natAbs < pw 60 := pw_lt (j := 12) (by rw [Int.natAbs_mul]; exact mul_pw (Nat.lt_of_le_of_lt q1 lx) ly) (by decide)
  have av : val ys = y.natAbs := by rw [← ey, iv_abs]
  obtain ⟨p, hp⟩ : ∃ p, sz y = p := ⟨_, rfl⟩
  have hp0 : (p == 0) = false := by rw [← hp]; unfold sz; rw [if_neg h0]; split <;> rfl
  obtain ⟨q, hq⟩ : ∃ q, sz R = q := ⟨_, rfl⟩
  have hq0 : decide (0 ≤ q) = true := by rw [← hq]; unfold sz; simp; (repeat' split) <;> omega
  have HP := hide hp
  have HQ2 := hide hq
  have HC := hide (show sg (val (dg R.natAbs)) (val ys) = -1 by rw [val_dg, av]; exact sg_lt r2)
  have HQ := hide hQ
  have HR := hide hR
  have HE := hide e1
  have HX := hide (show sz (x - x) = 0 by rw [Int.sub_self]; rfl)
  clear hn r1 r2 q1 lx ly av hp hq hQ hR e1 ey
  have ha_1 := ha.alloc (EI sa Aa na ca)
  have hb_1 := hb.alloc (EI sa Aa na ca)
  have hy_1 := hy.alloc (EI sa Aa na ca)
  have ba_1 : Sb ((w).alloc (EI sa Aa na ca)) (w.heap.size) (.bool sa) (.slice Aa na ca) := by have h_ := Sb.new (w) (.bool sa) (.slice Aa na ca); exact h_
  have F1 := (Below.refl w.heap.size w).alloc (Nat.le_refl _) (EI sa Aa na ca)
  have ha_2 := ha_1.alloc (EI sb Ab nb_ cb)
  have hb_2 := hb_1.alloc (EI sb Ab nb_ cb)
  have hy_2 := hy_1.alloc (EI sb Ab nb_ cb)
  have ba_2 := ba_1.alloc (EI sb Ab nb_ cb)
  have bb_2 : Sb (((w).alloc (EI sa Aa na ca)).alloc (EI sb Ab nb_ cb)) (w.heap.size + 1) (.bool sb) (.slice Ab nb_ cb) := by have h_ := Sb.new ((w).alloc (EI sa Aa na ca)) (.bool sb) (.slice Ab nb_ cb); simp only [World.size_alloc] at h_; exact h_
  have F2 := F1.alloc F1.size (EI sb Ab nb_ cb)
  go_enter Try.func8, Try.ntmps8
  go_wp2_with fail
  refine (awake_int _).mono ?_
  rintro e w3 ⟨rfl, b3⟩
  have ha_3 := ha_2.below b3
  have hb_3 := hb_2.below b3
  have hy_3 := hy_2.below b3
  have ba_3 := ba_2.below b3 ba_2.lt
  have bb_3 := bb_2.below b3 bb_2.lt
  have F3 := below_then F2 (Nat.le_refl _) b3
  have ba_u3 := ba_3.cell0
  have ba_v3 := ba_3.cell1
  have bb_u3 := bb_3.cell0
  have bb_v3 := bb_3.cell1
  go_wp2_with fail
  refine (divmod_int _ _ _ _ _ _ _ _ _ _ Q R _ HQ.out HR.out h0 ha_3 hb_3 na3 nb3).mono ?_
  rintro e w4 ⟨s4, A4, n4, c4, t4, B4, m4, d4, rfl, q, r, b4⟩
  have ha_4 := ha_3.below b4
  have hb_4 := hb_3.below b4
  have hy_4 := hy_3.below b4
  have ba_4 := ba_3.below b4 ba_3.lt
  have bb_4 := bb_3.below b4 bb_3.lt
  have F4 := below_then F3 (Nat.le_refl _) b4
  have ba_u4 := ba_4.cell0
  have ba_v4 := ba_4.cell1
  have bb_u4 := bb_4.cell0
  have bb_v4 := bb_4.cell1
  have ha_5 := ha_4.alloc (EI s4 A4 n4 c4)
  have hb_5 := hb_4.alloc (EI s4 A4 n4 c4)
  have hy_5 := hy_4.alloc (EI s4 A4 n4 c4)
  have q_5 := q.alloc (EI s4 A4 n4 c4)
  have r_5 := r.alloc (EI s4 A4 n4 c4)
  have ba_5 := ba_4.alloc (EI s4 A4 n4 c4)
  have bb_5 := bb_4.alloc (EI s4 A4 n4 c4)
  have bq_5 : Sb ((w4).alloc (EI s4 A4 n4 c4)) (w4.heap.size) (.bool s4) (.slice A4 n4 c4) := by have h_ := Sb.new (w4) (.bool s4) (.slice A4 n4 c4); exact h_
  have F5 := F4.alloc F4.size (EI s4 A4 n4 c4)
  have ha_6 := ha_5.alloc (EI t4 B4 m4 d4)
  have hb_6 := hb_5.alloc (EI t4 B4 m4 d4)
  have hy_6 := hy_5.alloc (EI t4 B4 m4 d4)
  have q_6 := q_5.alloc (EI t4 B4 m4 d4)
  have r_6 := r_5.alloc (EI t4 B4 m4 d4)
  have ba_6 := ba_5.alloc (EI t4 B4 m4 d4)
  have bb_6 := bb_5.alloc (EI t4 B4 m4 d4)
  have bq_6 := bq_5.alloc (EI t4 B4 m4 d4)
  have br_6 : Sb (((w4).alloc (EI s4 A4 n4 c4)).alloc (EI t4 B4 m4 d4)) (w4.heap.size + 1) (.bool t4) (.slice B4 m4 d4) := by have h_ := Sb.new ((w4).alloc (EI s4 A4 n4 c4)) (.bool t4) (.slice B4 m4 d4); simp only [World.size_alloc] at h_; exact h_
  have F6 := F5.alloc F5.size (EI t4 B4 m4 d4)
  have ba_u6 := ba_6.cell0
  have ba_v6 := ba_6.cell1
  have bb_u6 := bb_6.cell0
  have bb_v6 := bb_6.cell1
  have bq_u6 := bq_6.cell0
  have bq_v6 := bq_6.cell1
  have br_u6 := br_6.cell0
  have br_v6 := br_6.cell1
  go_wp2_with fail
  refine (rsign_int _ _ _ _ _ p _ HP.out hb_6 nb4).mono ?_
  rintro e w7 ⟨rfl, b7⟩
  have ha_7 := ha_6.below b7
  have hb_7 := hb_6.below b7
  have hy_7 := hy_6.below b7
  have q_7 := q_6.below b7
  have r_7 := r_6.below b7
  have ba_7 := ba_6.below b7 ba_6.lt
  have bb_7 := bb_6.below b7 bb_6.lt
  have bq_7 := bq_6.below b7 bq_6.lt
  have br_7 := br_6.below b7 br_6.lt
  have F7 := below_then F6 (Nat.le_refl _) b7
  have ba_u7 := ba_7.cell0
  have ba_v7 := ba_7.cell1
  have bb_u7 := bb_7.cell0
  have bb_v7 := bb_7.cell1
  have bq_u7 := bq_7.cell0
  have bq_v7 := bq_7.cell1
  have br_u7 := br_7.cell0
  have br_v7 := br_7.cell1
  go_wp2_with fail
  have ha_8 := ha_7.drew
  have hb_8 := hb_7.drew
  have hy_8 := hy_7.drew
  have q_8 := q_7.drew
  have r_8 := r_7.drew
  have ba_8 := ba_7.drew
  have bb_8 := bb_7.drew
  have bq_8 := bq_7.drew
  have br_8 := br_7.drew
  have F8 := F7.drew
  go_region_held3 (fun w' => w'.cell? ⟨w.heap.size, 0, none⟩ = some (.bool sa) ∧ w'.cell? ⟨w.heap.size, 1, none⟩ = some (.slice Aa na ca) ∧ w'.cell? ⟨w.heap.size + 1, 0, none⟩ = some (.bool sb) ∧ w'.cell? ⟨w.heap.size + 1, 1, none⟩ = some (.slice Ab nb_ cb) ∧ w'.cell? ⟨w4.heap.size, 0, none⟩ = some (.bool s4) ∧ w'.cell? ⟨w4.heap.size, 1, none⟩ = some (.slice A4 n4 c4) ∧ w'.cell? ⟨w4.heap.size + 1, 0, none⟩ = some (.bool t4) ∧ w'.cell? ⟨w4.heap.size + 1, 1, none⟩ = some (.slice B4 m4 d4))
    (first
      | exact ⟨ba_15.cell0, ba_15.cell1, bb_15.cell0, bb_15.cell1, bq_15.cell0, bq_15.cell1, br_15.cell0, br_15.cell1⟩
      | exact ⟨ba_14.cell0, ba_14.cell1, bb_14.cell0, bb_14.cell1, bq_14.cell0, bq_14.cell1, br_14.cell0, br_14.cell1⟩
      | exact ⟨ba_13.cell0, ba_13.cell1, bb_13.cell0, bb_13.cell1, bq_13.cell0, bq_13.cell1, br_13.cell0, br_13.cell1⟩
      | exact ⟨ba_11.cell0, ba_11.cell1, bb_11.cell0, bb_11.cell1, bq_11.cell0, bq_11.cell1, br_11.cell0, br_11.cell1⟩
      | exact ⟨ba_10.cell0, ba_10.cell1, bb_10.cell0, bb_10.cell1, bq_10.cell0, bq_10.cell1, br_10.cell0, br_10.cell1⟩
      | exact ⟨ba_9.cell0, ba_9.cell1, bb_9.cell0, bb_9.cell1, bq_9.cell0, bq_9.cell1, br_9.cell0, br_9.cell1⟩
      | exact ⟨ba_8.cell0, ba_8.cell1, bb_8.cell0, bb_8.cell1, bq_8.cell0, bq_8.cell1, br_8.cell0, br_8.cell1⟩
      | fail)
    (first
      | (go_at_call 14; (with_reducible refine (valid_int _ _ _ _ _ _ _ q_8.valid q_8.rd (q_8.l3 lq)).mono ?_); rintro e w9 ⟨rfl, b9⟩; have ha_9 := ha_8.below b9; have hb_9 := hb_8.below b9; have hy_9 := hy_8.below b9; have q_9 := q_8.below b9; have r_9 := r_8.below b9; have ba_9 := ba_8.below b9 ba_8.lt; have bb_9 := bb_8.below b9 bb_8.lt; have bq_9 := bq_8.below b9 bq_8.lt; have br_9 := br_8.below b9 br_8.lt; have F9 := below_then F8 (Nat.le_refl _) b9)
      | (go_at_call 14; (with_reducible refine (valid_int _ _ _ _ _ _ _ r_9.valid r_9.rd (r_9.l3 lr)).mono ?_); rintro e w10 ⟨rfl, b10⟩; have ha_10 := ha_9.below b10; have hb_10 := hb_9.below b10; have hy_10 := hy_9.below b10; have q_10 := q_9.below b10; have r_10 := r_9.below b10; have ba_10 := ba_9.below b10 ba_9.lt; have bb_10 := bb_9.below b10 bb_9.lt; have bq_10 := bq_9.below b10 bq_9.lt; have br_10 := br_9.below b10 br_9.lt; have F10 := below_then F9 (Nat.le_refl _) b10)
      | (go_at_call 17; (with_reducible refine (rsign_int _ _ _ _ _ _ _ HQ2.out r_10.iz (r_10.l3 lr)).mono ?_); rintro e w11 ⟨rfl, b11⟩; have ha_11 := ha_10.below b11; have hb_11 := hb_10.below b11; have hy_11 := hy_10.below b11; have q_11 := q_10.below b11; have r_11 := r_10.below b11; have ba_11 := ba_10.below b11 ba_10.lt; have bb_11 := bb_10.below b11 bb_10.lt; have bq_11 := bq_10.below b11 bq_10.lt; have br_11 := br_10.below b11 br_10.lt; have F11 := below_then F10 (Nat.le_refl _) b11)
      | (go_at_call 33; (with_reducible refine (rcmp_at _ _ _ _ _ _ _ _ _ (-1) HC.out r_11.rd hy_11 (r_11.l3 lr) nb4).mono ?_); rintro e w' ⟨rfl, rfl⟩)
      | (go_at_call 29; (with_reducible refine (rmul_int _ _ _ _ _ _ _ _ _ _ (Q * y) _ rfl q_11.iz hb_11 (q_11.l2 lq) nb3).mono ?_); rintro e w13 ⟨s13, A13, n13, c13, rfl, k, b13⟩; have ha_13 := ha_11.below b13; have hb_13 := hb_11.below b13; have hy_13 := hy_11.below b13; have q_13 := q_11.below b13; have r_13 := r_11.below b13; have ba_13 := ba_11.below b13 ba_11.lt; have bb_13 := bb_11.below b13 bb_11.lt; have bq_13 := bq_11.below b13 bq_11.lt; have br_13 := br_11.below b13 br_11.lt; have F13 := below_then F11 (Nat.le_refl _) b13)
      | (go_at_call 24; (with_reducible refine (radd_int _ _ _ _ _ _ _ _ _ _ x _ HE.out k.iz r_13.iz (k.l2 lqy) (r_13.l2 lr)).mono ?_); rintro e w14 ⟨s14, A14, n14, c14, rfl, k2, b14⟩; have ha_14 := ha_13.below b14; have hb_14 := hb_13.below b14; have hy_14 := hy_13.below b14; have q_14 := q_13.below b14; have r_14 := r_13.below b14; have k_14 := k.below b14; have ba_14 := ba_13.below b14 ba_13.lt; have bb_14 := bb_13.below b14 bb_13.lt; have bq_14 := bq_13.below b14 bq_13.lt; have br_14 := br_13.below b14 br_13.lt; have F14 := below_then F13 (Nat.le_refl _) b14)
      | (go_at_call 31; (with_reducible refine (rcmp_int _ _ _ _ _ _ _ _ _ _ 0 _ HX.out k2.iz ha_14 (k2.l1 lx2) na2).mono ?_); rintro e w15 ⟨rfl, b15⟩; have ha_15 := ha_14.below b15; have hb_15 := hb_14.below b15; have hy_15 := hy_14.below b15; have q_15 := q_14.below b15; have r_15 := r_14.below b15; have k_15 := k_14.below b15; have k2_15 := k2.below b15; have ba_15 := ba_14.below b15 ba_14.lt; have bb_15 := bb_14.below b15 bb_14.lt; have bq_15 := bq_14.below b15 bq_14.lt; have br_15 := br_14.below b15 br_14.lt; have F15 := below_then F14 (Nat.le_refl _) b15)
      | fail)
  have ba_u15 := ba_15.cell0
  have ba_v15 := ba_15.cell1
  have bb_u15 := bb_15.cell0
  have bb_v15 := bb_15.cell1
  have bq_u15 := bq_15.cell0
  have bq_v15 := bq_15.cell1
  have br_u15 := br_15.cell0
  have br_v15 := br_15.cell1
  go_wp2
  go_ret
  exact ⟨rfl, F15⟩
end Go.Proofs.Ytefcpcekoihgjaa
