/-
  The walk of IntegerCompare, one case.
-/
import Derived.Test.YtefcpcekoihgjaaC0
import Derived.Deep.RegionHeld3
namespace Go.Proofs.Ytefcpcekoihgjaa
open Go.RowKit
set_option linter.unusedVariables false
set_option linter.unusedSimpArgs false

set_option maxHeartbeats 2000000 in
theorem law_cmp_lt2 (sa sb sc : Bool) (Aa Ab Ac : Option Addr) (na nb_ nc ca cb cc : Nat) (x y z : Int) (w : World) (ha : Iz w sa Aa na ca x) (hb : Iz w sb Ab nb_ cb y) (hc : Iz w sc Ac nc cc z) (hn : na ≤ 8 ∧ nb_ ≤ 8 ∧ nc ≤ 8) (t : Int) (ht : sz z = t) (htb : t = -1 ∨ t = 0 ∨ t = 1) (hr : sz (x - y) = (-1)) (hpp : ¬ sz (y - z) ≤ 0) :
    Calls Try.prog 7 #[.agg #[.bool sa, .slice Aa na ca], .agg #[.bool sb, .slice Ab nb_ cb], .agg #[.bool sc, .slice Ac nc cc]] w fun e w' => e = .returned (.bool true) ∧ Below w.heap.size w w' := by
  have hf := hide (decide_eq_true hn)
  have lx := ha.abs hn.1
  have ly := hb.abs hn.2.1
  have lz := hc.abs hn.2.2
  have na2 : na ≤ 65535 := by omega
  have nb2 : nb_ ≤ 65535 := by omega
  have nc2 : nc ≤ 65535 := by omega
  have na3 : na ≤ 65536 := by omega
  have nb3 : nb_ ≤ 65536 := by omega
  have nc3 : nc ≤ 65536 := by omega
  have na4 : na ≤ 1048576 := by omega
  have nb4 : nb_ ≤ 1048576 := by omega
  have nc4 : nc ≤ 1048576 := by omega
  clear hn
  have m1 : (x * z).natAbs < pw 16 := by rw [Int.natAbs_mul]; exact mul_pw lx lz
  have m2 : (y * z).natAbs < pw 16 := by rw [Int.natAbs_mul]; exact mul_pw ly lz
  have l1 := pw_lt (k := 60) m1 (by decide)
  have l2 := pw_lt (k := 60) m2 (by decide)
  have l9 : 4294967296 * pw 8 ≤ pw 60 := by decide
  have l3 : (x + z).natAbs < pw 60 := by omega
  have l4 : (y + z).natAbs < pw 60 := by omega
  have ha2 : sz ((x + z) - (y + z)) = sz (x - y) := congrArg sz (by omega)
  have hm2 : sz (x * z - y * z) = sz (x - y) * sz z := by rw [← Int.sub_mul, sz_mul]
  have hyx : sz (y - x) = - sz (x - y) := by rw [← sz_opp]; exact congrArg sz (by omega)
  obtain ⟨p, hp⟩ : ∃ p, sz (y - z) = p := ⟨_, rfl⟩
  obtain ⟨q, hq⟩ : ∃ q, sz (x - z) = q := ⟨_, rfl⟩
  clear lx ly lz m1 m2 l9
  rw [hr] at ha2 hm2 hyx
  rw [ht] at hm2
  have d5 : decide (p ≤ 0) = false := by rw [← hp]; exact decide_eq_false hpp
  rcases htb with rfl | rfl | rfl
  all_goals
   have HR := hide hr
   have HYX := hide (show sz (y - x) = 1 from hyx)
   have HP := hide hp
   have HQ := hide hq
   have HA := hide ha2
   have HM := hide hm2
   have HT := hide ht
   clear hr hyx hp hq ha2 hm2 ht
   have ha_1 := ha.alloc (EI sa Aa na ca)
   have hb_1 := hb.alloc (EI sa Aa na ca)
   have hc_1 := hc.alloc (EI sa Aa na ca)
   have ba_1 : Sb ((w).alloc (EI sa Aa na ca)) (w.heap.size) (.bool sa) (.slice Aa na ca) := by have h_ := Sb.new (w) (.bool sa) (.slice Aa na ca); exact h_
   have F1 := (Below.refl w.heap.size w).alloc (Nat.le_refl _) (EI sa Aa na ca)
   have ha_2 := ha_1.alloc (EI sb Ab nb_ cb)
   have hb_2 := hb_1.alloc (EI sb Ab nb_ cb)
   have hc_2 := hc_1.alloc (EI sb Ab nb_ cb)
   have ba_2 := ba_1.alloc (EI sb Ab nb_ cb)
   have bb_2 : Sb (((w).alloc (EI sa Aa na ca)).alloc (EI sb Ab nb_ cb)) (w.heap.size + 1) (.bool sb) (.slice Ab nb_ cb) := by have h_ := Sb.new ((w).alloc (EI sa Aa na ca)) (.bool sb) (.slice Ab nb_ cb); simp only [World.size_alloc] at h_; exact h_
   have F2 := F1.alloc F1.size (EI sb Ab nb_ cb)
   have ha_3 := ha_2.alloc (EI sc Ac nc cc)
   have hb_3 := hb_2.alloc (EI sc Ac nc cc)
   have hc_3 := hc_2.alloc (EI sc Ac nc cc)
   have ba_3 := ba_2.alloc (EI sc Ac nc cc)
   have bb_3 := bb_2.alloc (EI sc Ac nc cc)
   have bc_3 : Sb ((((w).alloc (EI sa Aa na ca)).alloc (EI sb Ab nb_ cb)).alloc (EI sc Ac nc cc)) (w.heap.size + 2) (.bool sc) (.slice Ac nc cc) := by have h_ := Sb.new (((w).alloc (EI sa Aa na ca)).alloc (EI sb Ab nb_ cb)) (.bool sc) (.slice Ac nc cc); simp only [World.size_alloc] at h_; exact h_
   have F3 := F2.alloc F2.size (EI sc Ac nc cc)
   go_enter Try.func7, Try.ntmps7
   go_wp2_with fail
   refine (awake_int _).mono ?_
   rintro e w4 ⟨rfl, b4⟩
   have ha_4 := ha_3.below b4
   have hb_4 := hb_3.below b4
   have hc_4 := hc_3.below b4
   have ba_4 := ba_3.below b4 ba_3.lt
   have bb_4 := bb_3.below b4 bb_3.lt
   have bc_4 := bc_3.below b4 bc_3.lt
   have F4 := below_then F3 (Nat.le_refl _) b4
   have ba_u4 := ba_4.cell0
   have ba_v4 := ba_4.cell1
   have bb_u4 := bb_4.cell0
   have bb_v4 := bb_4.cell1
   have bc_u4 := bc_4.cell0
   have bc_v4 := bc_4.cell1
   go_wp2_with fail
   refine (few_int _ _ _ _ _ _ _ _ _ _ _ _ _ _ hf.out).mono ?_
   rintro e w5 ⟨rfl, b5⟩
   have ha_5 := ha_4.below b5
   have hb_5 := hb_4.below b5
   have hc_5 := hc_4.below b5
   have ba_5 := ba_4.below b5 ba_4.lt
   have bb_5 := bb_4.below b5 bb_4.lt
   have bc_5 := bc_4.below b5 bc_4.lt
   have F5 := below_then F4 (Nat.le_refl _) b5
   have ba_u5 := ba_5.cell0
   have ba_v5 := ba_5.cell1
   have bb_u5 := bb_5.cell0
   have bb_v5 := bb_5.cell1
   have bc_u5 := bc_5.cell0
   have bc_v5 := bc_5.cell1
   go_wp2_with fail
   refine (cmp_int _ _ _ _ _ _ _ _ _ _ _ _ HR.out ha_5 hb_5 na4 nb4).mono ?_
   rintro e w6 ⟨rfl, b6⟩
   have ha_6 := ha_5.below b6
   have hb_6 := hb_5.below b6
   have hc_6 := hc_5.below b6
   have ba_6 := ba_5.below b6 ba_5.lt
   have bb_6 := bb_5.below b6 bb_5.lt
   have bc_6 := bc_5.below b6 bc_5.lt
   have F6 := below_then F5 (Nat.le_refl _) b6
   have ba_u6 := ba_6.cell0
   have ba_v6 := ba_6.cell1
   have bb_u6 := bb_6.cell0
   have bb_v6 := bb_6.cell1
   have bc_u6 := bc_6.cell0
   have bc_v6 := bc_6.cell1
   go_wp2_with fail
   refine (rcmp_int _ _ _ _ _ _ _ _ _ _ _ _ HR.out ha_6 hb_6 na2 nb2).mono ?_
   rintro e w7 ⟨rfl, b7⟩
   have ha_7 := ha_6.below b7
   have hb_7 := hb_6.below b7
   have hc_7 := hc_6.below b7
   have ba_7 := ba_6.below b7 ba_6.lt
   have bb_7 := bb_6.below b7 bb_6.lt
   have bc_7 := bc_6.below b7 bc_6.lt
   have F7 := below_then F6 (Nat.le_refl _) b7
   have ba_u7 := ba_7.cell0
   have ba_v7 := ba_7.cell1
   have bb_u7 := bb_7.cell0
   have bb_v7 := bb_7.cell1
   have bc_u7 := bc_7.cell0
   have bc_v7 := bc_7.cell1
   go_wp2_with fail
   refine (cmp_int _ _ _ _ _ _ _ _ _ _ _ _ HYX.out hb_7 ha_7 nb4 na4).mono ?_
   rintro e w8 ⟨rfl, b8⟩
   have ha_8 := ha_7.below b8
   have hb_8 := hb_7.below b8
   have hc_8 := hc_7.below b8
   have ba_8 := ba_7.below b8 ba_7.lt
   have bb_8 := bb_7.below b8 bb_7.lt
   have bc_8 := bc_7.below b8 bc_7.lt
   have F8 := below_then F7 (Nat.le_refl _) b8
   have ba_u8 := ba_8.cell0
   have ba_v8 := ba_8.cell1
   have bb_u8 := bb_8.cell0
   have bb_v8 := bb_8.cell1
   have bc_u8 := bc_8.cell0
   have bc_v8 := bc_8.cell1
   go_wp2_with fail
   refine (cmp_int _ _ _ _ _ _ _ _ _ _ _ _ HP.out hb_8 hc_8 nb4 nc4).mono ?_
   rintro e w9 ⟨rfl, b9⟩
   have ha_9 := ha_8.below b9
   have hb_9 := hb_8.below b9
   have hc_9 := hc_8.below b9
   have ba_9 := ba_8.below b9 ba_8.lt
   have bb_9 := bb_8.below b9 bb_8.lt
   have bc_9 := bc_8.below b9 bc_8.lt
   have F9 := below_then F8 (Nat.le_refl _) b9
   have ba_u9 := ba_9.cell0
   have ba_v9 := ba_9.cell1
   have bb_u9 := bb_9.cell0
   have bb_v9 := bb_9.cell1
   have bc_u9 := bc_9.cell0
   have bc_v9 := bc_9.cell1
   go_wp2_with fail
   have ha_10 := ha_9.drew
   have hb_10 := hb_9.drew
   have hc_10 := hc_9.drew
   have ba_10 := ba_9.drew
   have bb_10 := bb_9.drew
   have bc_10 := bc_9.drew
   have F10 := F9.drew
   go_region_held3 (fun w' => w'.cell? ⟨w.heap.size, 0, none⟩ = some (.bool sa) ∧ w'.cell? ⟨w.heap.size, 1, none⟩ = some (.slice Aa na ca) ∧ w'.cell? ⟨w.heap.size + 1, 0, none⟩ = some (.bool sb) ∧ w'.cell? ⟨w.heap.size + 1, 1, none⟩ = some (.slice Ab nb_ cb) ∧ w'.cell? ⟨w.heap.size + 2, 0, none⟩ = some (.bool sc) ∧ w'.cell? ⟨w.heap.size + 2, 1, none⟩ = some (.slice Ac nc cc))
     (first
       | exact ⟨ba_17.cell0, ba_17.cell1, bb_17.cell0, bb_17.cell1, bc_17.cell0, bc_17.cell1⟩
       | exact ⟨ba_16.cell0, ba_16.cell1, bb_16.cell0, bb_16.cell1, bc_16.cell0, bc_16.cell1⟩
       | exact ⟨ba_15.cell0, ba_15.cell1, bb_15.cell0, bb_15.cell1, bc_15.cell0, bc_15.cell1⟩
       | exact ⟨ba_14.cell0, ba_14.cell1, bb_14.cell0, bb_14.cell1, bc_14.cell0, bc_14.cell1⟩
       | exact ⟨ba_13.cell0, ba_13.cell1, bb_13.cell0, bb_13.cell1, bc_13.cell0, bc_13.cell1⟩
       | exact ⟨ba_12.cell0, ba_12.cell1, bb_12.cell0, bb_12.cell1, bc_12.cell0, bc_12.cell1⟩
       | exact ⟨ba_11.cell0, ba_11.cell1, bb_11.cell0, bb_11.cell1, bc_11.cell0, bc_11.cell1⟩
       | exact ⟨ba_10.cell0, ba_10.cell1, bb_10.cell0, bb_10.cell1, bc_10.cell0, bc_10.cell1⟩
       | fail)
     (first
       | (go_at_call 23; (with_reducible refine (add_int _ _ _ _ _ _ _ _ _ _ (x + z) _ rfl ha_10 hc_10 na3 nc3).mono ?_); rintro e w11 ⟨s11, A11, n11, c11, rfl, k, b11⟩; have ha_11 := ha_10.below b11; have hb_11 := hb_10.below b11; have hc_11 := hc_10.below b11; have ba_11 := ba_10.below b11 ba_10.lt; have bb_11 := bb_10.below b11 bb_10.lt; have bc_11 := bc_10.below b11 bc_10.lt; have F11 := below_then F10 (Nat.le_refl _) b11)
       | (go_at_call 23; (with_reducible refine (add_int _ _ _ _ _ _ _ _ _ _ (y + z) _ rfl hb_11 hc_11 nb3 nc3).mono ?_); rintro e w12 ⟨s12, A12, n12, c12, rfl, k2, b12⟩; have ha_12 := ha_11.below b12; have hb_12 := hb_11.below b12; have hc_12 := hc_11.below b12; have k_12 := k.below b12; have ba_12 := ba_11.below b12 ba_11.lt; have bb_12 := bb_11.below b12 bb_11.lt; have bc_12 := bc_11.below b12 bc_11.lt; have F12 := below_then F11 (Nat.le_refl _) b12)
       | (go_at_call 30; (with_reducible refine (cmp_int _ _ _ _ _ _ _ _ _ _ _ _ HA.out k_12.iz k2.iz (k_12.l3 l3) (k2.l3 l4)).mono ?_); rintro e w13 ⟨rfl, b13⟩; have ha_13 := ha_12.below b13; have hb_13 := hb_12.below b13; have hc_13 := hc_12.below b13; have k_13 := k_12.below b13; have k2_13 := k2.below b13; have ba_13 := ba_12.below b13 ba_12.lt; have bb_13 := bb_12.below b13 bb_12.lt; have bc_13 := bc_12.below b13 bc_12.lt; have F13 := below_then F12 (Nat.le_refl _) b13)
       | (go_at_call 28; (with_reducible refine (mul_int _ _ _ _ _ _ _ _ _ _ (x * z) _ rfl ha_13 hc_13 na3 nc3).mono ?_); rintro e w14 ⟨s14, A14, n14, c14, rfl, k3, b14⟩; have ha_14 := ha_13.below b14; have hb_14 := hb_13.below b14; have hc_14 := hc_13.below b14; have k_14 := k_13.below b14; have k2_14 := k2_13.below b14; have ba_14 := ba_13.below b14 ba_13.lt; have bb_14 := bb_13.below b14 bb_13.lt; have bc_14 := bc_13.below b14 bc_13.lt; have F14 := below_then F13 (Nat.le_refl _) b14)
       | (go_at_call 28; (with_reducible refine (mul_int _ _ _ _ _ _ _ _ _ _ (y * z) _ rfl hb_14 hc_14 nb3 nc3).mono ?_); rintro e w15 ⟨s15, A15, n15, c15, rfl, k4, b15⟩; have ha_15 := ha_14.below b15; have hb_15 := hb_14.below b15; have hc_15 := hc_14.below b15; have k_15 := k_14.below b15; have k2_15 := k2_14.below b15; have k3_15 := k3.below b15; have ba_15 := ba_14.below b15 ba_14.lt; have bb_15 := bb_14.below b15 bb_14.lt; have bc_15 := bc_14.below b15 bc_14.lt; have F15 := below_then F14 (Nat.le_refl _) b15)
       | (go_at_call 30; (with_reducible refine (cmp_int _ _ _ _ _ _ _ _ _ _ _ _ HM.out k3_15.iz k4.iz (k3_15.l3 l1) (k4.l3 l2)).mono ?_); rintro e w16 ⟨rfl, b16⟩; have ha_16 := ha_15.below b16; have hb_16 := hb_15.below b16; have hc_16 := hc_15.below b16; have k_16 := k_15.below b16; have k2_16 := k2_15.below b16; have k3_16 := k3_15.below b16; have k4_16 := k4.below b16; have ba_16 := ba_15.below b16 ba_15.lt; have bb_16 := bb_15.below b16 bb_15.lt; have bc_16 := bc_15.below b16 bc_15.lt; have F16 := below_then F15 (Nat.le_refl _) b16)
       | (go_at_call 16; (with_reducible refine (sign_int _ _ _ _ _ _ _ HT.out hc_16 nc4).mono ?_); rintro e w17 ⟨rfl, b17⟩; have ha_17 := ha_16.below b17; have hb_17 := hb_16.below b17; have hc_17 := hc_16.below b17; have k_17 := k_16.below b17; have k2_17 := k2_16.below b17; have k3_17 := k3_16.below b17; have k4_17 := k4_16.below b17; have ba_17 := ba_16.below b17 ba_16.lt; have bb_17 := bb_16.below b17 bb_16.lt; have bc_17 := bc_16.below b17 bc_16.lt; have F17 := below_then F16 (Nat.le_refl _) b17)
       | fail)
   have ba_u17 := ba_17.cell0
   have ba_v17 := ba_17.cell1
   have bb_u17 := bb_17.cell0
   have bb_v17 := bb_17.cell1
   have bc_u17 := bc_17.cell0
   have bc_v17 := bc_17.cell1
   go_wp2
   go_ret
   exact ⟨rfl, F17⟩
end Go.Proofs.Ytefcpcekoihgjaa
