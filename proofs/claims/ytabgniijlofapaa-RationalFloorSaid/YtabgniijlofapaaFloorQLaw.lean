/-
  A walk of stage 3.
-/
import Derived.Test.YtabgniijlofapaaL0
namespace Go.Proofs.Ytabgniijlofapaa
open Go.RowKit
set_option linter.unusedVariables false
set_option linter.unusedSimpArgs false

theorem lfloor_long (s : Bool) (A : Option Addr) (n c : Nat) (B : Option Addr) (m d : Nat) (w : World) (hn : ¬ (n ≤ 3 ∧ m ≤ 3)) :
    Calls Try.prog 8 #[.agg #[.bool s, .slice A n c, .slice B m d]] w fun e w' => e = .returned (.bool true) ∧ Below w.heap.size w w' := by
  have hf := hide (decide_eq_false hn)
  clear hn
  have bx_1 : Sq ((w).alloc (EQ s A n c B m d)) (w.heap.size) (.bool s) (.slice A n c) (.slice B m d) := by have h_ := Sq.new (w) (.bool s) (.slice A n c) (.slice B m d); exact h_
  have F1 := (Below.refl w.heap.size w).alloc (Nat.le_refl _) (EQ s A n c B m d)
  go_enter Try.func8, Try.ntmps8
  go_wp2_with fail
  refine (awake_q _).mono ?_
  rintro e w2 ⟨rfl, b2⟩
  have bx_2 := bx_1.below b2 bx_1.lt
  have F2 := below_then F1 (Nat.le_refl _) b2
  have bx_u2 := bx_2.cell0
  have bx_v2 := bx_2.cell1
  have bx_w2 := bx_2.cell2
  go_wp2_with fail
  refine (few_q _ _ _ _ _ _ _ _ _ hf.out).mono ?_
  rintro e w3 ⟨rfl, b3⟩
  have bx_3 := bx_2.below b3 bx_2.lt
  have F3 := below_then F2 (Nat.le_refl _) b3
  have bx_u3 := bx_3.cell0
  have bx_v3 := bx_3.cell1
  have bx_w3 := bx_3.cell2
  go_wp2
  go_ret
  exact ⟨rfl, F3⟩
theorem sub_le0 {p q : Rat} (h : p ≤ q) : sz (p - q).num ≤ 0 := cmp_le.2 h
theorem sub_gt0 {p q : Rat} (h : q < p) : 0 < sz (p - q).num := by
  have h1 : ¬ sz (p - q).num ≤ 0 := fun e => Rat.not_le.2 h (cmp_le.1 e)
  omega
set_option maxHeartbeats 2000000 in
theorem lfloor (s : Bool) (A : Option Addr) (n c : Nat) (B : Option Addr) (m d : Nat) (q : Rat) (w : World) (h : Iq w s A n c B m d q) (hn : n ≤ 3 ∧ m ≤ 3) :
    Calls Try.prog 8 #[.agg #[.bool s, .slice A n c, .slice B m d]] w fun e w' => e = .returned (.bool true) ∧ Below w.heap.size w w' := by
  have hf := hide (decide_eq_true hn)
  have hn4 : n ≤ 4000 := by omega
  have hm4 : m ≤ 4000 := by omega
  have hn16 : n ≤ 16384 := by omega
  have hm16 : m ≤ 16384 := by omega
  have hs : Qs 3 q := h.size hn.1 hn.2 (by omega)
  have a3 : 3 ≤ 16384 := by omega
  have a4 : 3 ≤ 4000 := by omega
  obtain ⟨z, hz⟩ : ∃ z, qfl q = z := ⟨_, rfl⟩
  have sz_ : Qs 3 (z : Rat) := size_floor hs (by omega) z hz
  have sz1 : z.natAbs < pw 3 := sz_.1
  have su : Qs (3 + 1 + 1) ((z : Rat) + 1) := size_add sz_ (size_one (Nat.le_refl _))
  have a5 : 3 + 1 + 1 ≤ 4000 := by omega
  have a6 : 3 ≤ 1048576 := by omega
  have s1 : Qs 1 1 := size_one (Nat.le_refl _)
  have a1 : 1 ≤ 4000 := by omega
  have HZ := hide hz
  obtain ⟨r1, hr1⟩ : ∃ r, sz ((z : Rat) - q).num = r := ⟨_, rfl⟩
  obtain ⟨r2, hr2⟩ : ∃ r, sz ((z : Rat) + 1 - q).num = r := ⟨_, rfl⟩
  have d1 : decide (r1 ≤ 0) = true := by rw [← hr1]; exact decide_eq_true (sub_le0 (by rw [← hz]; exact qfl_le q))
  have d2 : decide (0 < r2) = true := by rw [← hr2]; exact decide_eq_true (sub_gt0 (by rw [← hz]; exact lt_qfl q))
  have HR1 := hide hr1
  have HR2 := hide hr2
  clear hz hr1 hr2 hn
  have h_1 := h.alloc (EQ s A n c B m d)
  have bx_1 : Sq ((w).alloc (EQ s A n c B m d)) (w.heap.size) (.bool s) (.slice A n c) (.slice B m d) := by have h_ := Sq.new (w) (.bool s) (.slice A n c) (.slice B m d); exact h_
  have F1 := (Below.refl w.heap.size w).alloc (Nat.le_refl _) (EQ s A n c B m d)
  go_enter Try.func8, Try.ntmps8
  go_wp2_with fail
  refine (awake_q _).mono ?_
  rintro e w2 ⟨rfl, b2⟩
  have h_2 := h_1.below b2
  have bx_2 := bx_1.below b2 bx_1.lt
  have F2 := below_then F1 (Nat.le_refl _) b2
  have bx_u2 := bx_2.cell0
  have bx_v2 := bx_2.cell1
  have bx_w2 := bx_2.cell2
  go_wp2_with fail
  refine (few_q _ _ _ _ _ _ _ _ _ hf.out).mono ?_
  rintro e w3 ⟨rfl, b3⟩
  have h_3 := h_2.below b3
  have bx_3 := bx_2.below b3 bx_2.lt
  have F3 := below_then F2 (Nat.le_refl _) b3
  have bx_u3 := bx_3.cell0
  have bx_v3 := bx_3.cell1
  have bx_w3 := bx_3.cell2
  go_wp2_with fail
  refine (floor_q _ _ _ _ _ _ _ _ z _ HZ.out h_3 hn4 hm4).mono ?_
  rintro e w4 ⟨s4, A4, n4, c4, rfl, k, b4⟩
  have h_4 := h_3.below b4
  have bx_4 := bx_3.below b4 bx_3.lt
  have F4 := below_then F3 (Nat.le_refl _) b4
  have bx_u4 := bx_4.cell0
  have bx_v4 := bx_4.cell1
  have bx_w4 := bx_4.cell2
  have lk := k.len sz1
  have lk1 := Nat.le_trans lk a3
  have lk2 := Nat.le_trans lk a6
  have lt_bk_bx := bx_4.lt
  have h_5 := h_4.alloc (EI s4 A4 n4 c4)
  have k_5 := k.alloc (EI s4 A4 n4 c4)
  have bx_5 := bx_4.alloc (EI s4 A4 n4 c4)
  have bk_5 : Sb ((w4).alloc (EI s4 A4 n4 c4)) (w4.heap.size) (.bool s4) (.slice A4 n4 c4) := by have h_ := Sb.new (w4) (.bool s4) (.slice A4 n4 c4); exact h_
  have F5 := F4.alloc F4.size (EI s4 A4 n4 c4)
  have bx_u5 := bx_5.cell0
  have bx_v5 := bx_5.cell1
  have bx_w5 := bx_5.cell2
  have bk_u5 := bk_5.cell0
  have bk_v5 := bk_5.cell1
  go_wp2_with fail
  refine (rwhole_q _ _ _ _ _ _ k_5.iz lk1).mono ?_
  rintro e w6 ⟨s6, A6, n6, c6, B6, m6, d6, rfl, wh, b6⟩
  have h_6 := h_5.below b6
  have k_6 := k_5.below b6
  have bx_6 := bx_5.below b6 bx_5.lt
  have bk_6 := bk_5.below b6 bk_5.lt
  have F6 := below_then F5 (Nat.le_refl _) b6
  have bx_u6 := bx_6.cell0
  have bx_v6 := bx_6.cell1
  have bx_w6 := bx_6.cell2
  have bk_u6 := bk_6.cell0
  have bk_v6 := bk_6.cell1
  have lwh := wh.tiny sz_
  have qwh := And.intro (Nat.le_trans lwh.1 a4) (Nat.le_trans lwh.2 a4)
  have lt_bw_bx := bx_6.lt
  have lt_bw_bk := bk_6.lt
  have h_7 := h_6.alloc (EQ s6 A6 n6 c6 B6 m6 d6)
  have k_7 := k_6.alloc (EQ s6 A6 n6 c6 B6 m6 d6)
  have wh_7 := wh.alloc (EQ s6 A6 n6 c6 B6 m6 d6)
  have bx_7 := bx_6.alloc (EQ s6 A6 n6 c6 B6 m6 d6)
  have bk_7 := bk_6.alloc (EQ s6 A6 n6 c6 B6 m6 d6)
  have bw_7 : Sq ((w6).alloc (EQ s6 A6 n6 c6 B6 m6 d6)) (w6.heap.size) (.bool s6) (.slice A6 n6 c6) (.slice B6 m6 d6) := by have h_ := Sq.new (w6) (.bool s6) (.slice A6 n6 c6) (.slice B6 m6 d6); exact h_
  have F7 := F6.alloc F6.size (EQ s6 A6 n6 c6 B6 m6 d6)
  go_wp2_with fail
  have h_8 := h_7.drew
  have k_8 := k_7.drew
  have wh_8 := wh_7.drew
  have bx_8 := bx_7.drew
  have bk_8 := bk_7.drew
  have bw_8 := bw_7.drew
  have F8 := F7.drew
  go_region_held3 (fun w' => w'.cell? ⟨w.heap.size, 0, none⟩ = some (.bool s) ∧ w'.cell? ⟨w.heap.size, 1, none⟩ = some (.slice A n c) ∧ w'.cell? ⟨w.heap.size, 2, none⟩ = some (.slice B m d) ∧ w'.cell? ⟨w4.heap.size, 0, none⟩ = some (.bool s4) ∧ w'.cell? ⟨w4.heap.size, 1, none⟩ = some (.slice A4 n4 c4) ∧ w'.cell? ⟨w6.heap.size, 0, none⟩ = some (.bool s6) ∧ w'.cell? ⟨w6.heap.size, 1, none⟩ = some (.slice A6 n6 c6) ∧ w'.cell? ⟨w6.heap.size, 2, none⟩ = some (.slice B6 m6 d6))
    (first
      | with_reducible exact ⟨bx_13.cell0, bx_13.cell1, bx_13.cell2, bk_13.cell0, bk_13.cell1, bw_13.cell0, bw_13.cell1, bw_13.cell2⟩
      | with_reducible exact ⟨bx_12.cell0, bx_12.cell1, bx_12.cell2, bk_12.cell0, bk_12.cell1, bw_12.cell0, bw_12.cell1, bw_12.cell2⟩
      | with_reducible exact ⟨bx_11.cell0, bx_11.cell1, bx_11.cell2, bk_11.cell0, bk_11.cell1, bw_11.cell0, bw_11.cell1, bw_11.cell2⟩
      | with_reducible exact ⟨bx_10.cell0, bx_10.cell1, bx_10.cell2, bk_10.cell0, bk_10.cell1, bw_10.cell0, bw_10.cell1, bw_10.cell2⟩
      | with_reducible exact ⟨bx_9.cell0, bx_9.cell1, bx_9.cell2, bk_9.cell0, bk_9.cell1, bw_9.cell0, bw_9.cell1, bw_9.cell2⟩
      | with_reducible exact ⟨bx_8.cell0, bx_8.cell1, bx_8.cell2, bk_8.cell0, bk_8.cell1, bw_8.cell0, bw_8.cell1, bw_8.cell2⟩
      | fail)
    (first
      | (go_at_call 47; (with_reducible refine (rvalid_int _ _ _ _ _ _ _ k_8.valid k_8.rn lk2).mono ?_); rintro e w9 ⟨rfl, b9⟩; have h_9 := h_8.below b9; have k_9 := k_8.below b9; have wh_9 := wh_8.below b9; have bx_9 := bx_8.below b9 bx_8.lt; have bk_9 := bk_8.below b9 bk_8.lt; have bw_9 := bw_8.below b9 bw_8.lt; have F9 := below_then F8 (Nat.le_refl _) b9)
      | (go_at_call 40; (with_reducible refine (rcmp_q _ _ _ _ _ _ _ _ _ _ _ _ _ _ _ _ _ _ HR1.out wh_9.iq h_9 qwh.1 qwh.2 hn4 hm4).mono ?_); rintro e w10 ⟨rfl, b10⟩; have h_10 := h_9.below b10; have k_10 := k_9.below b10; have wh_10 := wh_9.below b10; have bx_10 := bx_9.below b10 bx_9.lt; have bk_10 := bk_9.below b10 bk_9.lt; have bw_10 := bw_9.below b10 bw_9.lt; have F10 := below_then F9 (Nat.le_refl _) b10)
      | (go_at_call 32; (with_reducible refine (rone_q _).mono ?_); rintro e w11 ⟨s11, A11, n11, c11, B11, m11, d11, rfl, one, b11⟩; have h_11 := h_10.below b11; have k_11 := k_10.below b11; have wh_11 := wh_10.below b11; have bx_11 := bx_10.below b11 bx_10.lt; have bk_11 := bk_10.below b11 bk_10.lt; have bw_11 := bw_10.below b11 bw_10.lt; have F11 := below_then F10 (Nat.le_refl _) b11; have lo := one.small s1 a1)
      | (go_at_call 34; (with_reducible refine (radd_q _ _ _ _ _ _ _ _ _ _ _ _ _ _ _ _ _ _ rfl wh_11.iq one.iq qwh.1 qwh.2 lo.1 lo.2).mono ?_); rintro e w12 ⟨s12, A12, n12, c12, B12, m12, d12, rfl, u, b12⟩; have h_12 := h_11.below b12; have k_12 := k_11.below b12; have wh_12 := wh_11.below b12; have one_12 := one.below b12; have bx_12 := bx_11.below b12 bx_11.lt; have bk_12 := bk_11.below b12 bk_11.lt; have bw_12 := bw_11.below b12 bw_11.lt; have F12 := below_then F11 (Nat.le_refl _) b12; have lu := u.small su a5)
      | (go_at_call 40; (with_reducible refine (rcmp_q _ _ _ _ _ _ _ _ _ _ _ _ _ _ _ _ _ _ HR2.out u.iq h_12 lu.1 lu.2 hn4 hm4).mono ?_); rintro e w13 ⟨rfl, b13⟩; have h_13 := h_12.below b13; have k_13 := k_12.below b13; have wh_13 := wh_12.below b13; have one_13 := one_12.below b13; have u_13 := u.below b13; have bx_13 := bx_12.below b13 bx_12.lt; have bk_13 := bk_12.below b13 bk_12.lt; have bw_13 := bw_12.below b13 bw_12.lt; have F13 := below_then F12 (Nat.le_refl _) b13)
      | fail)
  have bx_u13 := bx_13.cell0
  have bx_v13 := bx_13.cell1
  have bx_w13 := bx_13.cell2
  have bk_u13 := bk_13.cell0
  have bk_v13 := bk_13.cell1
  have bw_u13 := bw_13.cell0
  have bw_v13 := bw_13.cell1
  have bw_w13 := bw_13.cell2
  go_wp2
  go_ret
  exact ⟨rfl, F13⟩
end Go.Proofs.Ytabgniijlofapaa
