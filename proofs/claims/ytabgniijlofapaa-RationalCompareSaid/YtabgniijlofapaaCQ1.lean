/-
  The walk of RationalCompare, one case.
-/
import Derived.Test.YtabgniijlofapaaCQ0
import Derived.Deep.RegionHeld3
namespace Go.Proofs.Ytabgniijlofapaa
open Go.RowKit
set_option linter.unusedVariables false
set_option linter.unusedSimpArgs false

set_option maxHeartbeats 4000000 in
theorem lcmp_gt (s s' s'' : Bool) (A A' A'' : Option Addr) (n c n' c' n'' c'' : Nat) (B B' B'' : Option Addr) (m d m' d' m'' d'' : Nat) (x y z : Rat) (w : World) (ha : Iq w s A n c B m d x) (hb : Iq w s' A' n' c' B' m' d' y) (hc : Iq w s'' A'' n'' c'' B'' m'' d'' z) (hn : (n ≤ 3 ∧ m ≤ 3) ∧ (n' ≤ 3 ∧ m' ≤ 3) ∧ (n'' ≤ 3 ∧ m'' ≤ 3)) (t : Int) (ht : sz z.num = t) (htb : t = -1 ∨ t = 0 ∨ t = 1) (hr : sz (x - y).num = 1) :
    Calls Try.prog 7 #[.agg #[.bool s, .slice A n c, .slice B m d], .agg #[.bool s', .slice A' n' c', .slice B' m' d'], .agg #[.bool s'', .slice A'' n'' c'', .slice B'' m'' d'']] w fun e w' => e = .returned (.bool true) ∧ Below w.heap.size w w' := by
  have hf1 := hide (decide_eq_true hn.1)
  have hf2 := hide (decide_eq_true hn.2.1)
  have hf3 := hide (decide_eq_true hn.2.2)
  have sx : Qs 3 x := ha.size hn.1.1 hn.1.2 (by omega)
  have sy : Qs 3 y := hb.size hn.2.1.1 hn.2.1.2 (by omega)
  have sz3 : Qs 3 z := hc.size hn.2.2.1 hn.2.2.2 (by omega)
  have la : n ≤ 4000 ∧ m ≤ 4000 := by omega
  have lb : n' ≤ 4000 ∧ m' ≤ 4000 := by omega
  have lc : n'' ≤ 4000 ∧ m'' ≤ 4000 := by omega
  have la6 : n ≤ 16384 ∧ m ≤ 16384 := by omega
  have lb6 : n' ≤ 16384 ∧ m' ≤ 16384 := by omega
  have lc6 : n'' ≤ 16384 ∧ m'' ≤ 16384 := by omega
  clear hn
  have s7 : Qs 7 (x + z) := size_add sx sz3
  have s8 : Qs 7 (y + z) := size_add sy sz3
  have s9 : Qs 6 (x * z) := size_mul sx sz3
  have s10 : Qs 6 (y * z) := size_mul sy sz3
  have ha2 : sz ((x + z) - (y + z)).num = sz (x - y).num := by rw [show (x + z) - (y + z) = x - y by grind]
  have hm2 : sz (x * z - y * z).num = sz (x - y).num * sz z.num := by rw [← szq_mul]; rw [show x * z - y * z = (x - y) * z by grind]
  have hyx : sz (y - x).num = - sz (x - y).num := sz_swap x y
  obtain ⟨u1, hu1⟩ : ∃ v, (if x ≤ y then x else y) = v := ⟨_, rfl⟩
  obtain ⟨u2, hu2⟩ : ∃ v, (if y ≤ x then x else y) = v := ⟨_, rfl⟩
  have su1 : Qs 3 u1 := by rw [← hu1]; split; exact sx; exact sy
  have su2 : Qs 3 u2 := by rw [← hu2]; split; exact sx; exact sy
  have HU1 := hide hu1
  have HU2 := hide hu2
  obtain ⟨p, hp⟩ : ∃ p, sz (y - z).num = p := ⟨_, rfl⟩
  obtain ⟨q, hq⟩ : ∃ q, sz (x - z).num = q := ⟨_, rfl⟩
  clear hu1 hu2
  rw [hr] at ha2 hm2 hyx
  rw [ht] at hm2
  rcases htb with rfl | rfl | rfl
  all_goals
   have HR := hide hr
   have HYX := hide (show sz (y - x).num = -1 from hyx)
   have HP := hide hp
   have HQ := hide hq
   have HA := hide ha2
   have HM := hide hm2
   have HT := hide ht
   clear hr hyx hp hq ha2 hm2 ht
   have ha_1 := ha.alloc (EQ s A n c B m d)
   have hb_1 := hb.alloc (EQ s A n c B m d)
   have hc_1 := hc.alloc (EQ s A n c B m d)
   have ba_1 : Sq ((w).alloc (EQ s A n c B m d)) (w.heap.size) (.bool s) (.slice A n c) (.slice B m d) := by have h_ := Sq.new (w) (.bool s) (.slice A n c) (.slice B m d); exact h_
   have F1 := (Below.refl w.heap.size w).alloc (Nat.le_refl _) (EQ s A n c B m d)
   have ha_2 := ha_1.alloc (EQ s' A' n' c' B' m' d')
   have hb_2 := hb_1.alloc (EQ s' A' n' c' B' m' d')
   have hc_2 := hc_1.alloc (EQ s' A' n' c' B' m' d')
   have ba_2 := ba_1.alloc (EQ s' A' n' c' B' m' d')
   have bb_2 : Sq (((w).alloc (EQ s A n c B m d)).alloc (EQ s' A' n' c' B' m' d')) (w.heap.size + 1) (.bool s') (.slice A' n' c') (.slice B' m' d') := by have h_ := Sq.new ((w).alloc (EQ s A n c B m d)) (.bool s') (.slice A' n' c') (.slice B' m' d'); simp only [World.size_alloc] at h_; exact h_
   have F2 := F1.alloc F1.size (EQ s' A' n' c' B' m' d')
   have ha_3 := ha_2.alloc (EQ s'' A'' n'' c'' B'' m'' d'')
   have hb_3 := hb_2.alloc (EQ s'' A'' n'' c'' B'' m'' d'')
   have hc_3 := hc_2.alloc (EQ s'' A'' n'' c'' B'' m'' d'')
   have ba_3 := ba_2.alloc (EQ s'' A'' n'' c'' B'' m'' d'')
   have bb_3 := bb_2.alloc (EQ s'' A'' n'' c'' B'' m'' d'')
   have bc_3 : Sq ((((w).alloc (EQ s A n c B m d)).alloc (EQ s' A' n' c' B' m' d')).alloc (EQ s'' A'' n'' c'' B'' m'' d'')) (w.heap.size + 2) (.bool s'') (.slice A'' n'' c'') (.slice B'' m'' d'') := by have h_ := Sq.new (((w).alloc (EQ s A n c B m d)).alloc (EQ s' A' n' c' B' m' d')) (.bool s'') (.slice A'' n'' c'') (.slice B'' m'' d''); simp only [World.size_alloc] at h_; exact h_
   have F3 := F2.alloc F2.size (EQ s'' A'' n'' c'' B'' m'' d'')
   go_enter Try.func7, Try.ntmps7
   go_wp2_with fail
   refine (awake_q _).mono ?_
   rintro e w4 ⟨rfl, b4⟩
   have ha_4 := ha_3.below b4
   have hb_4 := hb_3.below b4
   have hc_4 := hc_3.below b4
   have ba_4 := ba_3.below b4 ba_3.lt
   have bb_4 := bb_3.below b4 bb_3.lt
   have bc_4 := bc_3.below b4 bc_3.lt
   have F4 := below_then F3 (Nat.le_refl _) b4
   have ba_u4 := ba_4.cell0
   have ba_v4 := ba_4.cell1
   have ba_w4 := ba_4.cell2
   have bb_u4 := bb_4.cell0
   have bb_v4 := bb_4.cell1
   have bb_w4 := bb_4.cell2
   have bc_u4 := bc_4.cell0
   have bc_v4 := bc_4.cell1
   have bc_w4 := bc_4.cell2
   go_wp2_with fail
   refine (few_q _ _ _ _ _ _ _ _ _ hf1.out).mono ?_
   rintro e w5 ⟨rfl, b5⟩
   have ha_5 := ha_4.below b5
   have hb_5 := hb_4.below b5
   have hc_5 := hc_4.below b5
   have ba_5 := ba_4.below b5 ba_4.lt
   have bb_5 := bb_4.below b5 bb_4.lt
   have bc_5 := bc_4.below b5 bc_4.lt
   have F5 := below_then F4 (Nat.le_refl _) b5
   have ba_u5 := ba_5.cell0
   have ba_v5 := ba_5.cell1
   have ba_w5 := ba_5.cell2
   have bb_u5 := bb_5.cell0
   have bb_v5 := bb_5.cell1
   have bb_w5 := bb_5.cell2
   have bc_u5 := bc_5.cell0
   have bc_v5 := bc_5.cell1
   have bc_w5 := bc_5.cell2
   go_wp2_with fail
   refine (few_q _ _ _ _ _ _ _ _ _ hf2.out).mono ?_
   rintro e w6 ⟨rfl, b6⟩
   have ha_6 := ha_5.below b6
   have hb_6 := hb_5.below b6
   have hc_6 := hc_5.below b6
   have ba_6 := ba_5.below b6 ba_5.lt
   have bb_6 := bb_5.below b6 bb_5.lt
   have bc_6 := bc_5.below b6 bc_5.lt
   have F6 := below_then F5 (Nat.le_refl _) b6
   have ba_u6 := ba_6.cell0
   have ba_v6 := ba_6.cell1
   have ba_w6 := ba_6.cell2
   have bb_u6 := bb_6.cell0
   have bb_v6 := bb_6.cell1
   have bb_w6 := bb_6.cell2
   have bc_u6 := bc_6.cell0
   have bc_v6 := bc_6.cell1
   have bc_w6 := bc_6.cell2
   go_wp2_with fail
   refine (few_q _ _ _ _ _ _ _ _ _ hf3.out).mono ?_
   rintro e w7 ⟨rfl, b7⟩
   have ha_7 := ha_6.below b7
   have hb_7 := hb_6.below b7
   have hc_7 := hc_6.below b7
   have ba_7 := ba_6.below b7 ba_6.lt
   have bb_7 := bb_6.below b7 bb_6.lt
   have bc_7 := bc_6.below b7 bc_6.lt
   have F7 := below_then F6 (Nat.le_refl _) b7
   have ba_u7 := ba_7.cell0
   have ba_v7 := ba_7.cell1
   have ba_w7 := ba_7.cell2
   have bb_u7 := bb_7.cell0
   have bb_v7 := bb_7.cell1
   have bb_w7 := bb_7.cell2
   have bc_u7 := bc_7.cell0
   have bc_v7 := bc_7.cell1
   have bc_w7 := bc_7.cell2
   go_wp2_with fail
   refine (cmp_q _ _ _ _ _ _ _ _ _ _ _ _ _ _ _ _ _ _ HR.out ha_7 hb_7 la.1 la.2 lb.1 lb.2).mono ?_
   rintro e w8 ⟨rfl, b8⟩
   have ha_8 := ha_7.below b8
   have hb_8 := hb_7.below b8
   have hc_8 := hc_7.below b8
   have ba_8 := ba_7.below b8 ba_7.lt
   have bb_8 := bb_7.below b8 bb_7.lt
   have bc_8 := bc_7.below b8 bc_7.lt
   have F8 := below_then F7 (Nat.le_refl _) b8
   have ba_u8 := ba_8.cell0
   have ba_v8 := ba_8.cell1
   have ba_w8 := ba_8.cell2
   have bb_u8 := bb_8.cell0
   have bb_v8 := bb_8.cell1
   have bb_w8 := bb_8.cell2
   have bc_u8 := bc_8.cell0
   have bc_v8 := bc_8.cell1
   have bc_w8 := bc_8.cell2
   go_wp2_with fail
   refine (rcmp_q _ _ _ _ _ _ _ _ _ _ _ _ _ _ _ _ _ _ HR.out ha_8 hb_8 la.1 la.2 lb.1 lb.2).mono ?_
   rintro e w9 ⟨rfl, b9⟩
   have ha_9 := ha_8.below b9
   have hb_9 := hb_8.below b9
   have hc_9 := hc_8.below b9
   have ba_9 := ba_8.below b9 ba_8.lt
   have bb_9 := bb_8.below b9 bb_8.lt
   have bc_9 := bc_8.below b9 bc_8.lt
   have F9 := below_then F8 (Nat.le_refl _) b9
   have ba_u9 := ba_9.cell0
   have ba_v9 := ba_9.cell1
   have ba_w9 := ba_9.cell2
   have bb_u9 := bb_9.cell0
   have bb_v9 := bb_9.cell1
   have bb_w9 := bb_9.cell2
   have bc_u9 := bc_9.cell0
   have bc_v9 := bc_9.cell1
   have bc_w9 := bc_9.cell2
   go_wp2_with fail
   refine (cmp_q _ _ _ _ _ _ _ _ _ _ _ _ _ _ _ _ _ _ HYX.out hb_9 ha_9 lb.1 lb.2 la.1 la.2).mono ?_
   rintro e w10 ⟨rfl, b10⟩
   have ha_10 := ha_9.below b10
   have hb_10 := hb_9.below b10
   have hc_10 := hc_9.below b10
   have ba_10 := ba_9.below b10 ba_9.lt
   have bb_10 := bb_9.below b10 bb_9.lt
   have bc_10 := bc_9.below b10 bc_9.lt
   have F10 := below_then F9 (Nat.le_refl _) b10
   have ba_u10 := ba_10.cell0
   have ba_v10 := ba_10.cell1
   have ba_w10 := ba_10.cell2
   have bb_u10 := bb_10.cell0
   have bb_v10 := bb_10.cell1
   have bb_w10 := bb_10.cell2
   have bc_u10 := bc_10.cell0
   have bc_v10 := bc_10.cell1
   have bc_w10 := bc_10.cell2
   go_wp2_with fail
   have ha_11 := ha_10.drew
   have hb_11 := hb_10.drew
   have hc_11 := hc_10.drew
   have ba_11 := ba_10.drew
   have bb_11 := bb_10.drew
   have bc_11 := bc_10.drew
   have F11 := F10.drew
   go_region_held3 (fun w' => w'.cell? ⟨w.heap.size, 0, none⟩ = some (.bool s) ∧ w'.cell? ⟨w.heap.size, 1, none⟩ = some (.slice A n c) ∧ w'.cell? ⟨w.heap.size, 2, none⟩ = some (.slice B m d) ∧ w'.cell? ⟨w.heap.size + 1, 0, none⟩ = some (.bool s') ∧ w'.cell? ⟨w.heap.size + 1, 1, none⟩ = some (.slice A' n' c') ∧ w'.cell? ⟨w.heap.size + 1, 2, none⟩ = some (.slice B' m' d') ∧ w'.cell? ⟨w.heap.size + 2, 0, none⟩ = some (.bool s'') ∧ w'.cell? ⟨w.heap.size + 2, 1, none⟩ = some (.slice A'' n'' c'') ∧ w'.cell? ⟨w.heap.size + 2, 2, none⟩ = some (.slice B'' m'' d''))
     (first
       | with_reducible exact ⟨ba_17.cell0, ba_17.cell1, ba_17.cell2, bb_17.cell0, bb_17.cell1, bb_17.cell2, bc_17.cell0, bc_17.cell1, bc_17.cell2⟩
       | with_reducible exact ⟨ba_16.cell0, ba_16.cell1, ba_16.cell2, bb_16.cell0, bb_16.cell1, bb_16.cell2, bc_16.cell0, bc_16.cell1, bc_16.cell2⟩
       | with_reducible exact ⟨ba_15.cell0, ba_15.cell1, ba_15.cell2, bb_15.cell0, bb_15.cell1, bb_15.cell2, bc_15.cell0, bc_15.cell1, bc_15.cell2⟩
       | with_reducible exact ⟨ba_14.cell0, ba_14.cell1, ba_14.cell2, bb_14.cell0, bb_14.cell1, bb_14.cell2, bc_14.cell0, bc_14.cell1, bc_14.cell2⟩
       | with_reducible exact ⟨ba_13.cell0, ba_13.cell1, ba_13.cell2, bb_13.cell0, bb_13.cell1, bb_13.cell2, bc_13.cell0, bc_13.cell1, bc_13.cell2⟩
       | with_reducible exact ⟨ba_12.cell0, ba_12.cell1, ba_12.cell2, bb_12.cell0, bb_12.cell1, bb_12.cell2, bc_12.cell0, bc_12.cell1, bc_12.cell2⟩
       | with_reducible exact ⟨ba_11.cell0, ba_11.cell1, ba_11.cell2, bb_11.cell0, bb_11.cell1, bb_11.cell2, bc_11.cell0, bc_11.cell1, bc_11.cell2⟩
       | fail)
     (first
       | (go_at_call 41; (with_reducible refine (min_q _ _ _ _ _ _ _ _ _ _ _ _ _ _ _ _ _ _ HU1.out ha_11 hb_11 la.1 la.2 lb.1 lb.2).mono ?_); rintro e w12 ⟨s12, A12, n12, c12, B12, m12, d12, rfl, mi, b12⟩; have ha_12 := ha_11.below b12; have hb_12 := hb_11.below b12; have hc_12 := hc_11.below b12; have ba_12 := ba_11.below b12 ba_11.lt; have bb_12 := bb_11.below b12 bb_11.lt; have bc_12 := bc_11.below b12 bc_11.lt; have F12 := below_then F11 (Nat.le_refl _) b12; have li := mi.tiny6 su1 (by omega))
       | (go_at_call 42; (with_reducible refine (rmin_at _ _ _ _ _ _ _ _ _ _ _ _ _ _ _ _ _ _ HU1.out ha_12 hb_12 la.1 la.2 lb.1 lb.2).mono ?_); rintro e w13 ⟨s13, A13, n13, c13, B13, m13, d13, rfl, mi2, b13⟩; have ha_13 := ha_12.below b13; have hb_13 := hb_12.below b13; have hc_13 := hc_12.below b13; have mi_13 := mi.below b13; have ba_13 := ba_12.below b13 ba_12.lt; have bb_13 := bb_12.below b13 bb_12.lt; have bc_13 := bc_12.below b13 bc_12.lt; have F13 := below_then F12 (Nat.le_refl _) b13)
       | (go_at_call 15; (with_reducible refine (same_q _ _ _ _ _ _ _ _ _ _ _ _ _ _ _ _ mi_13 mi2 li.1 li.2).mono ?_); rintro e w14 ⟨rfl, b14⟩; have ha_14 := ha_13.below b14; have hb_14 := hb_13.below b14; have hc_14 := hc_13.below b14; have mi_14 := mi_13.below b14; have mi2_14 := mi2.below b14; have ba_14 := ba_13.below b14 ba_13.lt; have bb_14 := bb_13.below b14 bb_13.lt; have bc_14 := bc_13.below b14 bc_13.lt; have F14 := below_then F13 (Nat.le_refl _) b14)
       | (go_at_call 43; (with_reducible refine (max_q _ _ _ _ _ _ _ _ _ _ _ _ _ _ _ _ _ _ HU2.out ha_14 hb_14 la.1 la.2 lb.1 lb.2).mono ?_); rintro e w15 ⟨s15, A15, n15, c15, B15, m15, d15, rfl, ma, b15⟩; have ha_15 := ha_14.below b15; have hb_15 := hb_14.below b15; have hc_15 := hc_14.below b15; have mi_15 := mi_14.below b15; have mi2_15 := mi2_14.below b15; have ba_15 := ba_14.below b15 ba_14.lt; have bb_15 := bb_14.below b15 bb_14.lt; have bc_15 := bc_14.below b15 bc_14.lt; have F15 := below_then F14 (Nat.le_refl _) b15; have lj := ma.tiny6 su2 (by omega))
       | (go_at_call 44; (with_reducible refine (rmax_at _ _ _ _ _ _ _ _ _ _ _ _ _ _ _ _ _ _ HU2.out ha_15 hb_15 la.1 la.2 lb.1 lb.2).mono ?_); rintro e w16 ⟨s16, A16, n16, c16, B16, m16, d16, rfl, ma2, b16⟩; have ha_16 := ha_15.below b16; have hb_16 := hb_15.below b16; have hc_16 := hc_15.below b16; have mi_16 := mi_15.below b16; have mi2_16 := mi2_15.below b16; have ma_16 := ma.below b16; have ba_16 := ba_15.below b16 ba_15.lt; have bb_16 := bb_15.below b16 bb_15.lt; have bc_16 := bc_15.below b16 bc_15.lt; have F16 := below_then F15 (Nat.le_refl _) b16)
       | (go_at_call 15; (with_reducible refine (same_q _ _ _ _ _ _ _ _ _ _ _ _ _ _ _ _ ma_16 ma2 lj.1 lj.2).mono ?_); rintro e w17 ⟨rfl, b17⟩; have ha_17 := ha_16.below b17; have hb_17 := hb_16.below b17; have hc_17 := hc_16.below b17; have mi_17 := mi_16.below b17; have mi2_17 := mi2_16.below b17; have ma_17 := ma_16.below b17; have ma2_17 := ma2.below b17; have ba_17 := ba_16.below b17 ba_16.lt; have bb_17 := bb_16.below b17 bb_16.lt; have bc_17 := bc_16.below b17 bc_16.lt; have F17 := below_then F16 (Nat.le_refl _) b17)
       | fail)
   have ba_u17 := ba_17.cell0
   have ba_v17 := ba_17.cell1
   have ba_w17 := ba_17.cell2
   have bb_u17 := bb_17.cell0
   have bb_v17 := bb_17.cell1
   have bb_w17 := bb_17.cell2
   have bc_u17 := bc_17.cell0
   have bc_v17 := bc_17.cell1
   have bc_w17 := bc_17.cell2
   go_wp2_with fail
   have ha_18 := ha_17.drew
   have hb_18 := hb_17.drew
   have hc_18 := hc_17.drew
   have ba_18 := ba_17.drew
   have bb_18 := bb_17.drew
   have bc_18 := bc_17.drew
   have F18 := F17.drew
   go_region_held3 (fun w' => w'.cell? ⟨w.heap.size, 0, none⟩ = some (.bool s) ∧ w'.cell? ⟨w.heap.size, 1, none⟩ = some (.slice A n c) ∧ w'.cell? ⟨w.heap.size, 2, none⟩ = some (.slice B m d) ∧ w'.cell? ⟨w.heap.size + 1, 0, none⟩ = some (.bool s') ∧ w'.cell? ⟨w.heap.size + 1, 1, none⟩ = some (.slice A' n' c') ∧ w'.cell? ⟨w.heap.size + 1, 2, none⟩ = some (.slice B' m' d') ∧ w'.cell? ⟨w.heap.size + 2, 0, none⟩ = some (.bool s'') ∧ w'.cell? ⟨w.heap.size + 2, 1, none⟩ = some (.slice A'' n'' c'') ∧ w'.cell? ⟨w.heap.size + 2, 2, none⟩ = some (.slice B'' m'' d''))
     (first
       | with_reducible exact ⟨ba_25.cell0, ba_25.cell1, ba_25.cell2, bb_25.cell0, bb_25.cell1, bb_25.cell2, bc_25.cell0, bc_25.cell1, bc_25.cell2⟩
       | with_reducible exact ⟨ba_24.cell0, ba_24.cell1, ba_24.cell2, bb_24.cell0, bb_24.cell1, bb_24.cell2, bc_24.cell0, bc_24.cell1, bc_24.cell2⟩
       | with_reducible exact ⟨ba_23.cell0, ba_23.cell1, ba_23.cell2, bb_23.cell0, bb_23.cell1, bb_23.cell2, bc_23.cell0, bc_23.cell1, bc_23.cell2⟩
       | with_reducible exact ⟨ba_22.cell0, ba_22.cell1, ba_22.cell2, bb_22.cell0, bb_22.cell1, bb_22.cell2, bc_22.cell0, bc_22.cell1, bc_22.cell2⟩
       | with_reducible exact ⟨ba_21.cell0, ba_21.cell1, ba_21.cell2, bb_21.cell0, bb_21.cell1, bb_21.cell2, bc_21.cell0, bc_21.cell1, bc_21.cell2⟩
       | with_reducible exact ⟨ba_20.cell0, ba_20.cell1, ba_20.cell2, bb_20.cell0, bb_20.cell1, bb_20.cell2, bc_20.cell0, bc_20.cell1, bc_20.cell2⟩
       | with_reducible exact ⟨ba_19.cell0, ba_19.cell1, ba_19.cell2, bb_19.cell0, bb_19.cell1, bb_19.cell2, bc_19.cell0, bc_19.cell1, bc_19.cell2⟩
       | with_reducible exact ⟨ba_18.cell0, ba_18.cell1, ba_18.cell2, bb_18.cell0, bb_18.cell1, bb_18.cell2, bc_18.cell0, bc_18.cell1, bc_18.cell2⟩
       | fail)
     (first
       | (go_at_call 33; (with_reducible refine (add_q _ _ _ _ _ _ _ _ _ _ _ _ _ _ _ _ _ _ rfl ha_18 hc_18 la.1 la.2 lc.1 lc.2).mono ?_); rintro e w19 ⟨s19, A19, n19, c19, B19, m19, d19, rfl, k, b19⟩; have ha_19 := ha_18.below b19; have hb_19 := hb_18.below b19; have hc_19 := hc_18.below b19; have ba_19 := ba_18.below b19 ba_18.lt; have bb_19 := bb_18.below b19 bb_18.lt; have bc_19 := bc_18.below b19 bc_18.lt; have F19 := below_then F18 (Nat.le_refl _) b19; have vk := k.small s7 (show 7 ≤ 4000 by omega); have uk := k.tiny6 s7 (show 7 ≤ 16384 by omega))
       | (go_at_call 33; (with_reducible refine (add_q _ _ _ _ _ _ _ _ _ _ _ _ _ _ _ _ _ _ rfl hb_19 hc_19 lb.1 lb.2 lc.1 lc.2).mono ?_); rintro e w20 ⟨s20, A20, n20, c20, B20, m20, d20, rfl, k2, b20⟩; have ha_20 := ha_19.below b20; have hb_20 := hb_19.below b20; have hc_20 := hc_19.below b20; have k_20 := k.below b20; have ba_20 := ba_19.below b20 ba_19.lt; have bb_20 := bb_19.below b20 bb_19.lt; have bc_20 := bc_19.below b20 bc_19.lt; have F20 := below_then F19 (Nat.le_refl _) b20; have vk2 := k2.small s8 (show 7 ≤ 4000 by omega); have uk2 := k2.tiny6 s8 (show 7 ≤ 16384 by omega))
       | (go_at_call 39; (with_reducible refine (cmp_q _ _ _ _ _ _ _ _ _ _ _ _ _ _ _ _ _ _ HA.out k_20.iq k2.iq vk.1 vk.2 vk2.1 vk2.2).mono ?_); rintro e w21 ⟨rfl, b21⟩; have ha_21 := ha_20.below b21; have hb_21 := hb_20.below b21; have hc_21 := hc_20.below b21; have k_21 := k_20.below b21; have k2_21 := k2.below b21; have ba_21 := ba_20.below b21 ba_20.lt; have bb_21 := bb_20.below b21 bb_20.lt; have bc_21 := bc_20.below b21 bc_20.lt; have F21 := below_then F20 (Nat.le_refl _) b21)
       | (go_at_call 30; (with_reducible refine (mul_q _ _ _ _ _ _ _ _ _ _ _ _ _ _ _ _ _ _ rfl ha_21 hc_21 la.1 la.2 lc.1 lc.2).mono ?_); rintro e w22 ⟨s22, A22, n22, c22, B22, m22, d22, rfl, k3, b22⟩; have ha_22 := ha_21.below b22; have hb_22 := hb_21.below b22; have hc_22 := hc_21.below b22; have k_22 := k_21.below b22; have k2_22 := k2_21.below b22; have ba_22 := ba_21.below b22 ba_21.lt; have bb_22 := bb_21.below b22 bb_21.lt; have bc_22 := bc_21.below b22 bc_21.lt; have F22 := below_then F21 (Nat.le_refl _) b22; have vk3 := k3.small s9 (show 6 ≤ 4000 by omega); have uk3 := k3.tiny6 s9 (show 6 ≤ 16384 by omega))
       | (go_at_call 30; (with_reducible refine (mul_q _ _ _ _ _ _ _ _ _ _ _ _ _ _ _ _ _ _ rfl hb_22 hc_22 lb.1 lb.2 lc.1 lc.2).mono ?_); rintro e w23 ⟨s23, A23, n23, c23, B23, m23, d23, rfl, k4, b23⟩; have ha_23 := ha_22.below b23; have hb_23 := hb_22.below b23; have hc_23 := hc_22.below b23; have k_23 := k_22.below b23; have k2_23 := k2_22.below b23; have k3_23 := k3.below b23; have ba_23 := ba_22.below b23 ba_22.lt; have bb_23 := bb_22.below b23 bb_22.lt; have bc_23 := bc_22.below b23 bc_22.lt; have F23 := below_then F22 (Nat.le_refl _) b23; have vk4 := k4.small s10 (show 6 ≤ 4000 by omega); have uk4 := k4.tiny6 s10 (show 6 ≤ 16384 by omega))
       | (go_at_call 39; (with_reducible refine (cmp_q _ _ _ _ _ _ _ _ _ _ _ _ _ _ _ _ _ _ HM.out k3_23.iq k4.iq vk3.1 vk3.2 vk4.1 vk4.2).mono ?_); rintro e w24 ⟨rfl, b24⟩; have ha_24 := ha_23.below b24; have hb_24 := hb_23.below b24; have hc_24 := hc_23.below b24; have k_24 := k_23.below b24; have k2_24 := k2_23.below b24; have k3_24 := k3_23.below b24; have k4_24 := k4.below b24; have ba_24 := ba_23.below b24 ba_23.lt; have bb_24 := bb_23.below b24 bb_23.lt; have bc_24 := bc_23.below b24 bc_23.lt; have F24 := below_then F23 (Nat.le_refl _) b24)
       | (go_at_call 25; (with_reducible refine (sign_q _ _ _ _ _ _ _ _ _ _ HT.out hc_24 lc6.1).mono ?_); rintro e w25 ⟨rfl, b25⟩; have ha_25 := ha_24.below b25; have hb_25 := hb_24.below b25; have hc_25 := hc_24.below b25; have k_25 := k_24.below b25; have k2_25 := k2_24.below b25; have k3_25 := k3_24.below b25; have k4_25 := k4_24.below b25; have ba_25 := ba_24.below b25 ba_24.lt; have bb_25 := bb_24.below b25 bb_24.lt; have bc_25 := bc_24.below b25 bc_24.lt; have F25 := below_then F24 (Nat.le_refl _) b25)
       | fail)
   have ba_u25 := ba_25.cell0
   have ba_v25 := ba_25.cell1
   have ba_w25 := ba_25.cell2
   have bb_u25 := bb_25.cell0
   have bb_v25 := bb_25.cell1
   have bb_w25 := bb_25.cell2
   have bc_u25 := bc_25.cell0
   have bc_v25 := bc_25.cell1
   have bc_w25 := bc_25.cell2
   go_wp2
   go_ret
   exact ⟨rfl, F25⟩
end Go.Proofs.Ytabgniijlofapaa
