/-
  The walk of IntegerMul.
-/
import Derived.Test.YtefcpcekoihgjaaNegLaw
import Derived.Deep.RegionHeld3
namespace Go.Proofs.Ytefcpcekoihgjaa
open Go.RowKit
set_option linter.unusedVariables false
set_option linter.unusedSimpArgs false

theorem law_mul_long (sa sb sc : Bool) (Aa Ab Ac : Option Addr) (na nb_ nc ca cb cc : Nat) (w : World) (hn : ¬ (na ≤ 8 ∧ nb_ ≤ 8 ∧ nc ≤ 8)) :
    Calls Try.prog 6 #[.agg #[.bool sa, .slice Aa na ca], .agg #[.bool sb, .slice Ab nb_ cb], .agg #[.bool sc, .slice Ac nc cc]] w fun e w' => e = .returned (.bool true) ∧ Below w.heap.size w w' := by
  have hf := hide (decide_eq_false hn)
  clear hn
  have ba_1 : Sb ((w).alloc (EI sa Aa na ca)) (w.heap.size) (.bool sa) (.slice Aa na ca) := by have h_ := Sb.new (w) (.bool sa) (.slice Aa na ca); exact h_
  have F1 := (Below.refl w.heap.size w).alloc (Nat.le_refl _) (EI sa Aa na ca)
  have ba_2 := ba_1.alloc (EI sb Ab nb_ cb)
  have bb_2 : Sb (((w).alloc (EI sa Aa na ca)).alloc (EI sb Ab nb_ cb)) (w.heap.size + 1) (.bool sb) (.slice Ab nb_ cb) := by have h_ := Sb.new ((w).alloc (EI sa Aa na ca)) (.bool sb) (.slice Ab nb_ cb); simp only [World.size_alloc] at h_; exact h_
  have F2 := F1.alloc F1.size (EI sb Ab nb_ cb)
  have ba_3 := ba_2.alloc (EI sc Ac nc cc)
  have bb_3 := bb_2.alloc (EI sc Ac nc cc)
  have bc_3 : Sb ((((w).alloc (EI sa Aa na ca)).alloc (EI sb Ab nb_ cb)).alloc (EI sc Ac nc cc)) (w.heap.size + 2) (.bool sc) (.slice Ac nc cc) := by have h_ := Sb.new (((w).alloc (EI sa Aa na ca)).alloc (EI sb Ab nb_ cb)) (.bool sc) (.slice Ac nc cc); simp only [World.size_alloc] at h_; exact h_
  have F3 := F2.alloc F2.size (EI sc Ac nc cc)
  go_enter Try.func6, Try.ntmps6
  go_wp2_with fail
  refine (awake_int _).mono ?_
  rintro e w4 ⟨rfl, b4⟩
  have ba_4 := ba_3.below b4 ba_3.lt
  have bb_4 := bb_3.below b4 bb_3.lt
  have bc_4 := bc_3.below b4 bc_3.lt
  have F4 := below_then F3 (Nat.le_refl _) b4
  have ba_u4 := ba_4.cell0
  have ba_v4 := ba_4.cell1
  have bb_u4 := bb_4.cell0
  have bb_v4 := bb_4.cell1
  have bc_u4 := bc_4.cell0
  have bc_v4 := bc_4.cell1
  go_wp2_with fail
  refine (few_int _ _ _ _ _ _ _ _ _ _ _ _ _ _ hf.out).mono ?_
  rintro e w5 ⟨rfl, b5⟩
  have ba_5 := ba_4.below b5 ba_4.lt
  have bb_5 := bb_4.below b5 bb_4.lt
  have bc_5 := bc_4.below b5 bc_4.lt
  have F5 := below_then F4 (Nat.le_refl _) b5
  have ba_u5 := ba_5.cell0
  have ba_v5 := ba_5.cell1
  have bb_u5 := bb_5.cell0
  have bb_v5 := bb_5.cell1
  have bc_u5 := bc_5.cell0
  have bc_v5 := bc_5.cell1
  go_wp2
  go_ret
  exact ⟨rfl, F5⟩
set_option maxHeartbeats 2000000 in
theorem law_mul (sa sb sc : Bool) (Aa Ab Ac : Option Addr) (na nb_ nc ca cb cc : Nat) (x y z : Int) (w : World) (ha : Iz w sa Aa na ca x) (hb : Iz w sb Ab nb_ cb y) (hc : Iz w sc Ac nc cc z) (hn : na ≤ 8 ∧ nb_ ≤ 8 ∧ nc ≤ 8) :
    Calls Try.prog 6 #[.agg #[.bool sa, .slice Aa na ca], .agg #[.bool sb, .slice Ab nb_ cb], .agg #[.bool sc, .slice Ac nc cc]] w fun e w' => e = .returned (.bool true) ∧ Below w.heap.size w w' := by
  have hf := hide (decide_eq_true hn)
  have lx := ha.abs hn.1
  have ly := hb.abs hn.2.1
  have lz := hc.abs hn.2.2
  have na2 : na ≤ 65535 := by omega
  have nb2 : nb_ ≤ 65535 := by omega
  have nc2 : nc ≤ 65535 := by omega
  have na3 : na ≤ 65536 := by omega
  have nb3 : nb_ ≤ 65536 := by omega
  have nc3 : nc ≤ 65536 := by omega
  have na4 : na ≤ 1048576 := by omega
  have nb4 : nb_ ≤ 1048576 := by omega
  have nc4 : nc ≤ 1048576 := by omega
  clear hn
  have m1 : (x * y).natAbs < pw 16 := by rw [Int.natAbs_mul]; exact mul_pw lx ly
  have m2 : (x * z).natAbs < pw 16 := by rw [Int.natAbs_mul]; exact mul_pw lx lz
  have m3 : (y * z).natAbs < pw 16 := by rw [Int.natAbs_mul]; exact mul_pw ly lz
  have m4 : (x * y * z).natAbs < pw 24 := by rw [Int.natAbs_mul]; exact mul_pw m1 lz
  have m5 : (y + z).natAbs < pw 9 := by have h9 : 4294967296 * pw 8 ≤ pw 9 := by decide
                                        omega
  have m6 : (x * y + x * z).natAbs < pw 17 := by have h9 : 4294967296 * pw 16 ≤ pw 17 := by decide
                                                 omega
  have l1 := pw_lt (k := 60) m1 (by decide)
  have l2 := pw_lt (k := 60) m2 (by decide)
  have l3 := pw_lt (k := 60) m3 (by decide)
  have l4 := pw_lt (k := 60) m4 (by decide)
  have l5 := pw_lt (k := 60) m5 (by decide)
  have l6 := pw_lt (k := 60) m6 (by decide)
  clear lx ly lz m1 m2 m3 m4 m5 m6
  have E1 := hide (Int.mul_comm y x)
  have E2 := hide (Int.mul_assoc x y z).symm
  have E3 := hide (Int.mul_add x y z)
  have ha_1 := ha.alloc (EI sa Aa na ca)
  have hb_1 := hb.alloc (EI sa Aa na ca)
  have hc_1 := hc.alloc (EI sa Aa na ca)
  have ba_1 : Sb ((w).alloc (EI sa Aa na ca)) (w.heap.size) (.bool sa) (.slice Aa na ca) := by have h_ := Sb.new (w) (.bool sa) (.slice Aa na ca); exact h_
  have F1 := (Below.refl w.heap.size w).alloc (Nat.le_refl _) (EI sa Aa na ca)
  have ha_2 := ha_1.alloc (EI sb Ab nb_ cb)
  have hb_2 := hb_1.alloc (EI sb Ab nb_ cb)
  have hc_2 := hc_1.alloc (EI sb Ab nb_ cb)
  have ba_2 := ba_1.alloc (EI sb Ab nb_ cb)
  have bb_2 : Sb (((w).alloc (EI sa Aa na ca)).alloc (EI sb Ab nb_ cb)) (w.heap.size + 1) (.bool sb) (.slice Ab nb_ cb) := by have h_ := Sb.new ((w).alloc (EI sa Aa na ca)) (.bool sb) (.slice Ab nb_ cb); simp only [World.size_alloc] at h_; exact h_
  have F2 := F1.alloc F1.size (EI sb Ab nb_ cb)
  have ha_3 := ha_2.alloc (EI sc Ac nc cc)
  have hb_3 := hb_2.alloc (EI sc Ac nc cc)
  have hc_3 := hc_2.alloc (EI sc Ac nc cc)
  have ba_3 := ba_2.alloc (EI sc Ac nc cc)
  have bb_3 := bb_2.alloc (EI sc Ac nc cc)
  have bc_3 : Sb ((((w).alloc (EI sa Aa na ca)).alloc (EI sb Ab nb_ cb)).alloc (EI sc Ac nc cc)) (w.heap.size + 2) (.bool sc) (.slice Ac nc cc) := by have h_ := Sb.new (((w).alloc (EI sa Aa na ca)).alloc (EI sb Ab nb_ cb)) (.bool sc) (.slice Ac nc cc); simp only [World.size_alloc] at h_; exact h_
  have F3 := F2.alloc F2.size (EI sc Ac nc cc)
  go_enter Try.func6, Try.ntmps6
  go_wp2_with fail
  refine (awake_int _).mono ?_
  rintro e w4 ⟨rfl, b4⟩
  have ha_4 := ha_3.below b4
  have hb_4 := hb_3.below b4
  have hc_4 := hc_3.below b4
  have ba_4 := ba_3.below b4 ba_3.lt
  have bb_4 := bb_3.below b4 bb_3.lt
  have bc_4 := bc_3.below b4 bc_3.lt
  have F4 := below_then F3 (Nat.le_refl _) b4
  have ba_u4 := ba_4.cell0
  have ba_v4 := ba_4.cell1
  have bb_u4 := bb_4.cell0
  have bb_v4 := bb_4.cell1
  have bc_u4 := bc_4.cell0
  have bc_v4 := bc_4.cell1
  go_wp2_with fail
  refine (few_int _ _ _ _ _ _ _ _ _ _ _ _ _ _ hf.out).mono ?_
  rintro e w5 ⟨rfl, b5⟩
  have ha_5 := ha_4.below b5
  have hb_5 := hb_4.below b5
  have hc_5 := hc_4.below b5
  have ba_5 := ba_4.below b5 ba_4.lt
  have bb_5 := bb_4.below b5 bb_4.lt
  have bc_5 := bc_4.below b5 bc_4.lt
  have F5 := below_then F4 (Nat.le_refl _) b5
  have ba_u5 := ba_5.cell0
  have ba_v5 := ba_5.cell1
  have bb_u5 := bb_5.cell0
  have bb_v5 := bb_5.cell1
  have bc_u5 := bc_5.cell0
  have bc_v5 := bc_5.cell1
  go_wp2_with fail
  refine (mul_int _ _ _ _ _ _ _ _ _ _ (x * y) _ rfl ha_5 hb_5 na3 nb3).mono ?_
  rintro e w6 ⟨s6, A6, n6, c6, rfl, s, b6⟩
  have ha_6 := ha_5.below b6
  have hb_6 := hb_5.below b6
  have hc_6 := hc_5.below b6
  have ba_6 := ba_5.below b6 ba_5.lt
  have bb_6 := bb_5.below b6 bb_5.lt
  have bc_6 := bc_5.below b6 bc_5.lt
  have F6 := below_then F5 (Nat.le_refl _) b6
  have ba_u6 := ba_6.cell0
  have ba_v6 := ba_6.cell1
  have bb_u6 := bb_6.cell0
  have bb_v6 := bb_6.cell1
  have bc_u6 := bc_6.cell0
  have bc_v6 := bc_6.cell1
  have ha_7 := ha_6.alloc (EI s6 A6 n6 c6)
  have hb_7 := hb_6.alloc (EI s6 A6 n6 c6)
  have hc_7 := hc_6.alloc (EI s6 A6 n6 c6)
  have s_7 := s.alloc (EI s6 A6 n6 c6)
  have ba_7 := ba_6.alloc (EI s6 A6 n6 c6)
  have bb_7 := bb_6.alloc (EI s6 A6 n6 c6)
  have bc_7 := bc_6.alloc (EI s6 A6 n6 c6)
  have bs_7 : Sb ((w6).alloc (EI s6 A6 n6 c6)) (w6.heap.size) (.bool s6) (.slice A6 n6 c6) := by have h_ := Sb.new (w6) (.bool s6) (.slice A6 n6 c6); exact h_
  have F7 := F6.alloc F6.size (EI s6 A6 n6 c6)
  go_wp2_with fail
  have ha_8 := ha_7.drew
  have hb_8 := hb_7.drew
  have hc_8 := hc_7.drew
  have s_8 := s_7.drew
  have ba_8 := ba_7.drew
  have bb_8 := bb_7.drew
  have bc_8 := bc_7.drew
  have bs_8 := bs_7.drew
  have F8 := F7.drew
  go_region_held3 (fun w' => w'.cell? ⟨w.heap.size, 0, none⟩ = some (.bool sa) ∧ w'.cell? ⟨w.heap.size, 1, none⟩ = some (.slice Aa na ca) ∧ w'.cell? ⟨w.heap.size + 1, 0, none⟩ = some (.bool sb) ∧ w'.cell? ⟨w.heap.size + 1, 1, none⟩ = some (.slice Ab nb_ cb) ∧ w'.cell? ⟨w.heap.size + 2, 0, none⟩ = some (.bool sc) ∧ w'.cell? ⟨w.heap.size + 2, 1, none⟩ = some (.slice Ac nc cc) ∧ w'.cell? ⟨w6.heap.size, 0, none⟩ = some (.bool s6) ∧ w'.cell? ⟨w6.heap.size, 1, none⟩ = some (.slice A6 n6 c6))
    (first
      | exact ⟨ba_16.cell0, ba_16.cell1, bb_16.cell0, bb_16.cell1, bc_16.cell0, bc_16.cell1, bs_16.cell0, bs_16.cell1⟩
      | exact ⟨ba_15.cell0, ba_15.cell1, bb_15.cell0, bb_15.cell1, bc_15.cell0, bc_15.cell1, bs_15.cell0, bs_15.cell1⟩
      | exact ⟨ba_14.cell0, ba_14.cell1, bb_14.cell0, bb_14.cell1, bc_14.cell0, bc_14.cell1, bs_14.cell0, bs_14.cell1⟩
      | exact ⟨ba_13.cell0, ba_13.cell1, bb_13.cell0, bb_13.cell1, bc_13.cell0, bc_13.cell1, bs_13.cell0, bs_13.cell1⟩
      | exact ⟨ba_12.cell0, ba_12.cell1, bb_12.cell0, bb_12.cell1, bc_12.cell0, bc_12.cell1, bs_12.cell0, bs_12.cell1⟩
      | exact ⟨ba_11.cell0, ba_11.cell1, bb_11.cell0, bb_11.cell1, bc_11.cell0, bc_11.cell1, bs_11.cell0, bs_11.cell1⟩
      | exact ⟨ba_10.cell0, ba_10.cell1, bb_10.cell0, bb_10.cell1, bc_10.cell0, bc_10.cell1, bs_10.cell0, bs_10.cell1⟩
      | exact ⟨ba_9.cell0, ba_9.cell1, bb_9.cell0, bb_9.cell1, bc_9.cell0, bc_9.cell1, bs_9.cell0, bs_9.cell1⟩
      | exact ⟨ba_8.cell0, ba_8.cell1, bb_8.cell0, bb_8.cell1, bc_8.cell0, bc_8.cell1, bs_8.cell0, bs_8.cell1⟩
      | fail)
    (first
      | (go_at_call 29; (with_reducible refine (rmul_int _ _ _ _ _ _ _ _ _ _ (x * y) _ rfl ha_8 hb_8 na3 nb3).mono ?_); rintro e w9 ⟨s9, A9, n9, c9, rfl, k, b9⟩; have ha_9 := ha_8.below b9; have hb_9 := hb_8.below b9; have hc_9 := hc_8.below b9; have s_9 := s_8.below b9; have ba_9 := ba_8.below b9 ba_8.lt; have bb_9 := bb_8.below b9 bb_8.lt; have bc_9 := bc_8.below b9 bc_8.lt; have bs_9 := bs_8.below b9 bs_8.lt; have F9 := below_then F8 (Nat.le_refl _) b9)
      | (go_at_call 12; (with_reducible refine (same_int _ _ _ _ _ _ _ _ _ _ s_9 k (s_9.l3 l1)).mono ?_); rintro e w10 ⟨rfl, b10⟩; have ha_10 := ha_9.below b10; have hb_10 := hb_9.below b10; have hc_10 := hc_9.below b10; have s_10 := s_9.below b10; have k_10 := k.below b10; have ba_10 := ba_9.below b10 ba_9.lt; have bb_10 := bb_9.below b10 bb_9.lt; have bc_10 := bc_9.below b10 bc_9.lt; have bs_10 := bs_9.below b10 bs_9.lt; have F10 := below_then F9 (Nat.le_refl _) b10)
      | (go_at_call 28; (with_reducible refine (mul_int _ _ _ _ _ _ _ _ _ _ (x * y) _ E1.out hb_10 ha_10 nb3 na3).mono ?_); rintro e w11 ⟨s11, A11, n11, c11, rfl, s2, b11⟩; have ha_11 := ha_10.below b11; have hb_11 := hb_10.below b11; have hc_11 := hc_10.below b11; have s_11 := s_10.below b11; have k_11 := k_10.below b11; have ba_11 := ba_10.below b11 ba_10.lt; have bb_11 := bb_10.below b11 bb_10.lt; have bc_11 := bc_10.below b11 bc_10.lt; have bs_11 := bs_10.below b11 bs_10.lt; have F11 := below_then F10 (Nat.le_refl _) b11)
      | (go_at_call 12; (with_reducible refine (same_int _ _ _ _ _ _ _ _ _ _ s_11 s2 (s_11.l3 l1)).mono ?_); rintro e w12 ⟨rfl, b12⟩; have ha_12 := ha_11.below b12; have hb_12 := hb_11.below b12; have hc_12 := hc_11.below b12; have s_12 := s_11.below b12; have k_12 := k_11.below b12; have s2_12 := s2.below b12; have ba_12 := ba_11.below b12 ba_11.lt; have bb_12 := bb_11.below b12 bb_11.lt; have bc_12 := bc_11.below b12 bc_11.lt; have bs_12 := bs_11.below b12 bs_11.lt; have F12 := below_then F11 (Nat.le_refl _) b12)
      | (go_at_call 28; (with_reducible refine (mul_int _ _ _ _ _ _ _ _ _ _ (x * y * z) _ rfl s_12.iz hc_12 (s_12.l2 l1) nc3).mono ?_); rintro e w13 ⟨s13, A13, n13, c13, rfl, t1, b13⟩; have ha_13 := ha_12.below b13; have hb_13 := hb_12.below b13; have hc_13 := hc_12.below b13; have s_13 := s_12.below b13; have k_13 := k_12.below b13; have s2_13 := s2_12.below b13; have ba_13 := ba_12.below b13 ba_12.lt; have bb_13 := bb_12.below b13 bb_12.lt; have bc_13 := bc_12.below b13 bc_12.lt; have bs_13 := bs_12.below b13 bs_12.lt; have F13 := below_then F12 (Nat.le_refl _) b13)
      | (go_at_call 28; (with_reducible refine (mul_int _ _ _ _ _ _ _ _ _ _ (y * z) _ rfl hb_13 hc_13 nb3 nc3).mono ?_); rintro e w14 ⟨s14, A14, n14, c14, rfl, t2, b14⟩; have ha_14 := ha_13.below b14; have hb_14 := hb_13.below b14; have hc_14 := hc_13.below b14; have s_14 := s_13.below b14; have k_14 := k_13.below b14; have s2_14 := s2_13.below b14; have t1_14 := t1.below b14; have ba_14 := ba_13.below b14 ba_13.lt; have bb_14 := bb_13.below b14 bb_13.lt; have bc_14 := bc_13.below b14 bc_13.lt; have bs_14 := bs_13.below b14 bs_13.lt; have F14 := below_then F13 (Nat.le_refl _) b14)
      | (go_at_call 28; (with_reducible refine (mul_int _ _ _ _ _ _ _ _ _ _ (x * y * z) _ E2.out ha_14 t2.iz na3 (t2.l2 l3)).mono ?_); rintro e w15 ⟨s15, A15, n15, c15, rfl, t3, b15⟩; have ha_15 := ha_14.below b15; have hb_15 := hb_14.below b15; have hc_15 := hc_14.below b15; have s_15 := s_14.below b15; have k_15 := k_14.below b15; have s2_15 := s2_14.below b15; have t1_15 := t1_14.below b15; have t2_15 := t2.below b15; have ba_15 := ba_14.below b15 ba_14.lt; have bb_15 := bb_14.below b15 bb_14.lt; have bc_15 := bc_14.below b15 bc_14.lt; have bs_15 := bs_14.below b15 bs_14.lt; have F15 := below_then F14 (Nat.le_refl _) b15)
      | (go_at_call 12; (with_reducible refine (same_int _ _ _ _ _ _ _ _ _ _ t1_15 t3 (t1_15.l3 l4)).mono ?_); rintro e w16 ⟨rfl, b16⟩; have ha_16 := ha_15.below b16; have hb_16 := hb_15.below b16; have hc_16 := hc_15.below b16; have s_16 := s_15.below b16; have k_16 := k_15.below b16; have s2_16 := s2_15.below b16; have t1_16 := t1_15.below b16; have t2_16 := t2_15.below b16; have t3_16 := t3.below b16; have ba_16 := ba_15.below b16 ba_15.lt; have bb_16 := bb_15.below b16 bb_15.lt; have bc_16 := bc_15.below b16 bc_15.lt; have bs_16 := bs_15.below b16 bs_15.lt; have F16 := below_then F15 (Nat.le_refl _) b16)
      | fail)
  have ba_u16 := ba_16.cell0
  have ba_v16 := ba_16.cell1
  have bb_u16 := bb_16.cell0
  have bb_v16 := bb_16.cell1
  have bc_u16 := bc_16.cell0
  have bc_v16 := bc_16.cell1
  have bs_u16 := bs_16.cell0
  have bs_v16 := bs_16.cell1
  go_wp2_with fail
  have ha_17 := ha_16.drew
  have hb_17 := hb_16.drew
  have hc_17 := hc_16.drew
  have s_17 := s_16.drew
  have ba_17 := ba_16.drew
  have bb_17 := bb_16.drew
  have bc_17 := bc_16.drew
  have bs_17 := bs_16.drew
  have F17 := F16.drew
  go_region_held3 (fun w' => w'.cell? ⟨w.heap.size, 0, none⟩ = some (.bool sa) ∧ w'.cell? ⟨w.heap.size, 1, none⟩ = some (.slice Aa na ca) ∧ w'.cell? ⟨w.heap.size + 1, 0, none⟩ = some (.bool sb) ∧ w'.cell? ⟨w.heap.size + 1, 1, none⟩ = some (.slice Ab nb_ cb) ∧ w'.cell? ⟨w.heap.size + 2, 0, none⟩ = some (.bool sc) ∧ w'.cell? ⟨w.heap.size + 2, 1, none⟩ = some (.slice Ac nc cc) ∧ w'.cell? ⟨w6.heap.size, 0, none⟩ = some (.bool s6) ∧ w'.cell? ⟨w6.heap.size, 1, none⟩ = some (.slice A6 n6 c6))
    (first
      | exact ⟨ba_22.cell0, ba_22.cell1, bb_22.cell0, bb_22.cell1, bc_22.cell0, bc_22.cell1, bs_22.cell0, bs_22.cell1⟩
      | exact ⟨ba_21.cell0, ba_21.cell1, bb_21.cell0, bb_21.cell1, bc_21.cell0, bc_21.cell1, bs_21.cell0, bs_21.cell1⟩
      | exact ⟨ba_20.cell0, ba_20.cell1, bb_20.cell0, bb_20.cell1, bc_20.cell0, bc_20.cell1, bs_20.cell0, bs_20.cell1⟩
      | exact ⟨ba_19.cell0, ba_19.cell1, bb_19.cell0, bb_19.cell1, bc_19.cell0, bc_19.cell1, bs_19.cell0, bs_19.cell1⟩
      | exact ⟨ba_18.cell0, ba_18.cell1, bb_18.cell0, bb_18.cell1, bc_18.cell0, bc_18.cell1, bs_18.cell0, bs_18.cell1⟩
      | exact ⟨ba_17.cell0, ba_17.cell1, bb_17.cell0, bb_17.cell1, bc_17.cell0, bc_17.cell1, bs_17.cell0, bs_17.cell1⟩
      | fail)
    (first
      | (go_at_call 23; (with_reducible refine (add_int _ _ _ _ _ _ _ _ _ _ (y + z) _ rfl hb_17 hc_17 nb3 nc3).mono ?_); rintro e w18 ⟨s18, A18, n18, c18, rfl, u1, b18⟩; have ha_18 := ha_17.below b18; have hb_18 := hb_17.below b18; have hc_18 := hc_17.below b18; have s_18 := s_17.below b18; have ba_18 := ba_17.below b18 ba_17.lt; have bb_18 := bb_17.below b18 bb_17.lt; have bc_18 := bc_17.below b18 bc_17.lt; have bs_18 := bs_17.below b18 bs_17.lt; have F18 := below_then F17 (Nat.le_refl _) b18)
      | (go_at_call 28; (with_reducible refine (mul_int _ _ _ _ _ _ _ _ _ _ (x * y + x * z) _ E3.out ha_18 u1.iz na3 (u1.l2 l5)).mono ?_); rintro e w19 ⟨s19, A19, n19, c19, rfl, u2, b19⟩; have ha_19 := ha_18.below b19; have hb_19 := hb_18.below b19; have hc_19 := hc_18.below b19; have s_19 := s_18.below b19; have u1_19 := u1.below b19; have ba_19 := ba_18.below b19 ba_18.lt; have bb_19 := bb_18.below b19 bb_18.lt; have bc_19 := bc_18.below b19 bc_18.lt; have bs_19 := bs_18.below b19 bs_18.lt; have F19 := below_then F18 (Nat.le_refl _) b19)
      | (go_at_call 28; (with_reducible refine (mul_int _ _ _ _ _ _ _ _ _ _ (x * z) _ rfl ha_19 hc_19 na3 nc3).mono ?_); rintro e w20 ⟨s20, A20, n20, c20, rfl, u3, b20⟩; have ha_20 := ha_19.below b20; have hb_20 := hb_19.below b20; have hc_20 := hc_19.below b20; have s_20 := s_19.below b20; have u1_20 := u1_19.below b20; have u2_20 := u2.below b20; have ba_20 := ba_19.below b20 ba_19.lt; have bb_20 := bb_19.below b20 bb_19.lt; have bc_20 := bc_19.below b20 bc_19.lt; have bs_20 := bs_19.below b20 bs_19.lt; have F20 := below_then F19 (Nat.le_refl _) b20)
      | (go_at_call 23; (with_reducible refine (add_int _ _ _ _ _ _ _ _ _ _ (x * y + x * z) _ rfl s_20.iz u3.iz (s_20.l2 l1) (u3.l2 l2)).mono ?_); rintro e w21 ⟨s21, A21, n21, c21, rfl, u4, b21⟩; have ha_21 := ha_20.below b21; have hb_21 := hb_20.below b21; have hc_21 := hc_20.below b21; have s_21 := s_20.below b21; have u1_21 := u1_20.below b21; have u2_21 := u2_20.below b21; have u3_21 := u3.below b21; have ba_21 := ba_20.below b21 ba_20.lt; have bb_21 := bb_20.below b21 bb_20.lt; have bc_21 := bc_20.below b21 bc_20.lt; have bs_21 := bs_20.below b21 bs_20.lt; have F21 := below_then F20 (Nat.le_refl _) b21)
      | (go_at_call 12; (with_reducible refine (same_int _ _ _ _ _ _ _ _ _ _ u2_21 u4 (u2_21.l3 l6)).mono ?_); rintro e w22 ⟨rfl, b22⟩; have ha_22 := ha_21.below b22; have hb_22 := hb_21.below b22; have hc_22 := hc_21.below b22; have s_22 := s_21.below b22; have u1_22 := u1_21.below b22; have u2_22 := u2_21.below b22; have u3_22 := u3_21.below b22; have u4_22 := u4.below b22; have ba_22 := ba_21.below b22 ba_21.lt; have bb_22 := bb_21.below b22 bb_21.lt; have bc_22 := bc_21.below b22 bc_21.lt; have bs_22 := bs_21.below b22 bs_21.lt; have F22 := below_then F21 (Nat.le_refl _) b22)
      | fail)
  have ba_u22 := ba_22.cell0
  have ba_v22 := ba_22.cell1
  have bb_u22 := bb_22.cell0
  have bb_v22 := bb_22.cell1
  have bc_u22 := bc_22.cell0
  have bc_v22 := bc_22.cell1
  have bs_u22 := bs_22.cell0
  have bs_v22 := bs_22.cell1
  go_wp2
  go_ret
  exact ⟨rfl, F22⟩
end Go.Proofs.Ytefcpcekoihgjaa
