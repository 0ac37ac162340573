/-
  A walk of stage 3.
-/
import Derived.Test.YtabgniijlofapaaL0
namespace Go.Proofs.Ytabgniijlofapaa
open Go.RowKit
set_option linter.unusedVariables false
set_option linter.unusedSimpArgs false

theorem lcanon_long (s : Bool) (A : Option Addr) (n c : Nat) (B : Option Addr) (m d : Nat) (w : World) (hn : ¬ (n ≤ 3 ∧ m ≤ 3)) :
    Calls Try.prog 3 #[.agg #[.bool s, .slice A n c, .slice B m d]] w fun e w' => e = .returned (.bool true) ∧ Below w.heap.size w w' := by
  have hf := hide (decide_eq_false hn)
  clear hn
  have bx_1 : Sq ((w).alloc (EQ s A n c B m d)) (w.heap.size) (.bool s) (.slice A n c) (.slice B m d) := by have h_ := Sq.new (w) (.bool s) (.slice A n c) (.slice B m d); exact h_
  have F1 := (Below.refl w.heap.size w).alloc (Nat.le_refl _) (EQ s A n c B m d)
  go_enter Try.func3, Try.ntmps3
  go_wp2_with fail
  refine (awake_q _).mono ?_
  rintro e w2 ⟨rfl, b2⟩
  have bx_2 := bx_1.below b2 bx_1.lt
  have F2 := below_then F1 (Nat.le_refl _) b2
  have bx_u2 := bx_2.cell0
  have bx_v2 := bx_2.cell1
  have bx_w2 := bx_2.cell2
  go_wp2_with fail
  refine (few_q _ _ _ _ _ _ _ _ _ hf.out).mono ?_
  rintro e w3 ⟨rfl, b3⟩
  have bx_3 := bx_2.below b3 bx_2.lt
  have F3 := below_then F2 (Nat.le_refl _) b3
  have bx_u3 := bx_3.cell0
  have bx_v3 := bx_3.cell1
  have bx_w3 := bx_3.cell2
  go_wp2
  go_ret
  exact ⟨rfl, F3⟩
theorem Cq.valid {w : World} {s : Bool} {A B : Option Addr} {n c m d : Nat} {q : Rat} (h : Cq w s A n c B m d q) : ((s == decide (q.num < 0)) && decide (dg q.num.natAbs = dg q.num.natAbs) && decide (qd q = qd q)) = true := by
  rw [h.2.2]; simp
theorem Cq.rv {w : World} {s : Bool} {A B : Option Addr} {n c m d : Nat} {q : Rat} (h : Cq w s A n c B m d q) : rv s (dg q.num.natAbs) (qd q) = q := by
  unfold Go.Proofs.Ytabgniijlofapaa.rv; rw [rden_qd, show iv s (dg q.num.natAbs) = q.num from ?_, Rat.mkRat_self]
  rw [iv, val_dg, h.2.2]
  split <;> rename_i h0 <;> rw [decide_eq_true_eq] at h0 <;> omega
set_option maxHeartbeats 2000000 in
theorem lcanon (s : Bool) (A : Option Addr) (n c : Nat) (B : Option Addr) (m d : Nat) (xs ys : List Nat) (w : World) (hx : Rd w A n c xs) (hy : Rd w B m d ys) (hn : n ≤ 3 ∧ m ≤ 3) :
    Calls Try.prog 3 #[.agg #[.bool s, .slice A n c, .slice B m d]] w fun e w' => e = .returned (.bool true) ∧ Below w.heap.size w w' := by
  obtain ⟨q, hq⟩ : ∃ q, rv s xs ys = q := ⟨_, rfl⟩
  have h : Iq w s A n c B m d q := ⟨xs, ys, hx, hy, hq⟩
  have hf := hide (decide_eq_true hn)
  have hn4 : n ≤ 4000 := by omega
  have hm4 : m ≤ 4000 := by omega
  have hn16 : n ≤ 16384 := by omega
  have hm16 : m ≤ 16384 := by omega
  have hs : Qs 3 q := h.size hn.1 hn.2 (by omega)
  have a3 : 3 ≤ 16384 := by omega
  have a4 : 3 ≤ 4000 := by omega
  obtain ⟨b, hb⟩ : ∃ b, ((s == decide (q.num < 0)) && decide (xs = dg q.num.natAbs) && decide (ys = qd q)) = b := ⟨_, rfl⟩
  obtain ⟨r, hr⟩ : ∃ r, sz q.num = r := ⟨_, rfl⟩
  obtain ⟨L, hL⟩ : ∃ L, (dg q.den).length = L := ⟨_, rfl⟩
  have lL : L ≤ 1048576 := by rw [← hL]; exact Nat.le_trans (dg_le hs.2) (by omega)
  have HB := hide hb
  have HQ := hide hq
  have HR := hide hr
  have HL := hide hL
  have hs1 : q.num.natAbs < pw 3 := hs.1
  have hs2 : q.den < pw 3 := hs.2
  have a6 : 3 ≤ 1048576 := by omega
  clear hb hq hr hL hn
  have h_1 := h.alloc (EQ s A n c B m d)
  have hx_1 := hx.alloc (EQ s A n c B m d)
  have hy_1 := hy.alloc (EQ s A n c B m d)
  have bx_1 : Sq ((w).alloc (EQ s A n c B m d)) (w.heap.size) (.bool s) (.slice A n c) (.slice B m d) := by have h_ := Sq.new (w) (.bool s) (.slice A n c) (.slice B m d); exact h_
  have F1 := (Below.refl w.heap.size w).alloc (Nat.le_refl _) (EQ s A n c B m d)
  go_enter Try.func3, Try.ntmps3
  go_wp2_with fail
  refine (awake_q _).mono ?_
  rintro e w2 ⟨rfl, b2⟩
  have h_2 := h_1.below b2
  have hx_2 := hx_1.below b2
  have hy_2 := hy_1.below b2
  have bx_2 := bx_1.below b2 bx_1.lt
  have F2 := below_then F1 (Nat.le_refl _) b2
  have bx_u2 := bx_2.cell0
  have bx_v2 := bx_2.cell1
  have bx_w2 := bx_2.cell2
  go_wp2_with fail
  refine (few_q _ _ _ _ _ _ _ _ _ hf.out).mono ?_
  rintro e w3 ⟨rfl, b3⟩
  have h_3 := h_2.below b3
  have hx_3 := hx_2.below b3
  have hy_3 := hy_2.below b3
  have bx_3 := bx_2.below b3 bx_2.lt
  have F3 := below_then F2 (Nat.le_refl _) b3
  have bx_u3 := bx_3.cell0
  have bx_v3 := bx_3.cell1
  have bx_w3 := bx_3.cell2
  go_wp2_with fail
  refine (canon_q _ _ _ _ _ _ _ _ _ h_3 hn16 hm16).mono ?_
  rintro e w4 ⟨s4, A4, n4, c4, B4, m4, d4, rfl, k, b4⟩
  have h_4 := h_3.below b4
  have hx_4 := hx_3.below b4
  have hy_4 := hy_3.below b4
  have bx_4 := bx_3.below b4 bx_3.lt
  have F4 := below_then F3 (Nat.le_refl _) b4
  have bx_u4 := bx_4.cell0
  have bx_v4 := bx_4.cell1
  have bx_w4 := bx_4.cell2
  have lk := k.tiny hs
  have mk := And.intro (Nat.le_trans lk.1 a3) (Nat.le_trans lk.2 a3)
  have lt_bk_bx := bx_4.lt
  have h_5 := h_4.alloc (EQ s4 A4 n4 c4 B4 m4 d4)
  have hx_5 := hx_4.alloc (EQ s4 A4 n4 c4 B4 m4 d4)
  have hy_5 := hy_4.alloc (EQ s4 A4 n4 c4 B4 m4 d4)
  have k_5 := k.alloc (EQ s4 A4 n4 c4 B4 m4 d4)
  have bx_5 := bx_4.alloc (EQ s4 A4 n4 c4 B4 m4 d4)
  have bk_5 : Sq ((w4).alloc (EQ s4 A4 n4 c4 B4 m4 d4)) (w4.heap.size) (.bool s4) (.slice A4 n4 c4) (.slice B4 m4 d4) := by have h_ := Sq.new (w4) (.bool s4) (.slice A4 n4 c4) (.slice B4 m4 d4); exact h_
  have F5 := F4.alloc F4.size (EQ s4 A4 n4 c4 B4 m4 d4)
  go_wp2_with fail
  have h_6 := h_5.drew
  have hx_6 := hx_5.drew
  have hy_6 := hy_5.drew
  have k_6 := k_5.drew
  have bx_6 := bx_5.drew
  have bk_6 := bk_5.drew
  have F6 := F5.drew
  go_region_held3 (fun w' => w'.cell? ⟨w.heap.size, 0, none⟩ = some (.bool s) ∧ w'.cell? ⟨w.heap.size, 1, none⟩ = some (.slice A n c) ∧ w'.cell? ⟨w.heap.size, 2, none⟩ = some (.slice B m d) ∧ w'.cell? ⟨w4.heap.size, 0, none⟩ = some (.bool s4) ∧ w'.cell? ⟨w4.heap.size, 1, none⟩ = some (.slice A4 n4 c4) ∧ w'.cell? ⟨w4.heap.size, 2, none⟩ = some (.slice B4 m4 d4))
    (first
      | with_reducible exact ⟨bx_19.cell0, bx_19.cell1, bx_19.cell2, bk_19.cell0, bk_19.cell1, bk_19.cell2⟩
      | with_reducible exact ⟨bx_18.cell0, bx_18.cell1, bx_18.cell2, bk_18.cell0, bk_18.cell1, bk_18.cell2⟩
      | with_reducible exact ⟨bx_17.cell0, bx_17.cell1, bx_17.cell2, bk_17.cell0, bk_17.cell1, bk_17.cell2⟩
      | with_reducible exact ⟨bx_16.cell0, bx_16.cell1, bx_16.cell2, bk_16.cell0, bk_16.cell1, bk_16.cell2⟩
      | with_reducible exact ⟨bx_15.cell0, bx_15.cell1, bx_15.cell2, bk_15.cell0, bk_15.cell1, bk_15.cell2⟩
      | with_reducible exact ⟨bx_14.cell0, bx_14.cell1, bx_14.cell2, bk_14.cell0, bk_14.cell1, bk_14.cell2⟩
      | with_reducible exact ⟨bx_13.cell0, bx_13.cell1, bx_13.cell2, bk_13.cell0, bk_13.cell1, bk_13.cell2⟩
      | with_reducible exact ⟨bx_12.cell0, bx_12.cell1, bx_12.cell2, bk_12.cell0, bk_12.cell1, bk_12.cell2⟩
      | with_reducible exact ⟨bx_11.cell0, bx_11.cell1, bx_11.cell2, bk_11.cell0, bk_11.cell1, bk_11.cell2⟩
      | with_reducible exact ⟨bx_10.cell0, bx_10.cell1, bx_10.cell2, bk_10.cell0, bk_10.cell1, bk_10.cell2⟩
      | with_reducible exact ⟨bx_9.cell0, bx_9.cell1, bx_9.cell2, bk_9.cell0, bk_9.cell1, bk_9.cell2⟩
      | with_reducible exact ⟨bx_8.cell0, bx_8.cell1, bx_8.cell2, bk_8.cell0, bk_8.cell1, bk_8.cell2⟩
      | with_reducible exact ⟨bx_7.cell0, bx_7.cell1, bx_7.cell2, bk_7.cell0, bk_7.cell1, bk_7.cell2⟩
      | with_reducible exact ⟨bx_6.cell0, bx_6.cell1, bx_6.cell2, bk_6.cell0, bk_6.cell1, bk_6.cell2⟩
      | fail)
    (first
      | (go_at_call 16; (with_reducible refine (rcanon_q _ _ _ _ _ _ _ _ _ h_6 hn16 hm16).mono ?_); rintro e w7 ⟨s7, A7, n7, c7, B7, m7, d7, rfl, k2, b7⟩; have h_7 := h_6.below b7; have hx_7 := hx_6.below b7; have hy_7 := hy_6.below b7; have k_7 := k_6.below b7; have bx_7 := bx_6.below b7 bx_6.lt; have bk_7 := bk_6.below b7 bk_6.lt; have F7 := below_then F6 (Nat.le_refl _) b7)
      | (go_at_call 15; (with_reducible refine (same_q _ _ _ _ _ _ _ _ _ _ _ _ _ _ _ _ k_7 k2 mk.1 mk.2).mono ?_); rintro e w8 ⟨rfl, b8⟩; have h_8 := h_7.below b8; have hx_8 := hx_7.below b8; have hy_8 := hy_7.below b8; have k_8 := k_7.below b8; have k2_8 := k2.below b8; have bx_8 := bx_7.below b8 bx_7.lt; have bk_8 := bk_7.below b8 bk_7.lt; have F8 := below_then F7 (Nat.le_refl _) b8)
      | (go_at_call 17; (with_reducible refine (valid_q _ _ _ _ _ _ _ _ _ _ _ _ HB.out HQ.out hx_8 hy_8 hn16 hm16 3 a3 hs1 hs2).mono ?_); rintro e w9 ⟨rfl, b9⟩; have h_9 := h_8.below b9; have hx_9 := hx_8.below b9; have hy_9 := hy_8.below b9; have k_9 := k_8.below b9; have k2_9 := k2_8.below b9; have bx_9 := bx_8.below b9 bx_8.lt; have bk_9 := bk_8.below b9 bk_8.lt; have F9 := below_then F8 (Nat.le_refl _) b9)
      | (go_at_call 18; (with_reducible refine (rvalid_q _ _ _ _ _ _ _ _ _ _ _ _ HB.out HQ.out hx_9 hy_9 hn16 hm16 3 a3 hs1 hs2).mono ?_); rintro e w10 ⟨rfl, b10⟩; have h_10 := h_9.below b10; have hx_10 := hx_9.below b10; have hy_10 := hy_9.below b10; have k_10 := k_9.below b10; have k2_10 := k2_9.below b10; have bx_10 := bx_9.below b10 bx_9.lt; have bk_10 := bk_9.below b10 bk_9.lt; have F10 := below_then F9 (Nat.le_refl _) b10)
      | (go_at_call 17; (with_reducible refine (valid_q _ _ _ _ _ _ _ _ _ _ _ _ k_10.valid k_10.rv k_10.rn k_10.rd mk.1 mk.2 3 a3 hs1 hs2).mono ?_); rintro e w11 ⟨rfl, b11⟩; have h_11 := h_10.below b11; have hx_11 := hx_10.below b11; have hy_11 := hy_10.below b11; have k_11 := k_10.below b11; have k2_11 := k2_10.below b11; have bx_11 := bx_10.below b11 bx_10.lt; have bk_11 := bk_10.below b11 bk_10.lt; have F11 := below_then F10 (Nat.le_refl _) b11)
      | (go_at_call 20; (with_reducible refine (num_q _ _ _ _ _ _ _ _ _ h_11 hn16 hm16).mono ?_); rintro e w12 ⟨s12, A12, n12, c12, rfl, z1, b12⟩; have h_12 := h_11.below b12; have hx_12 := hx_11.below b12; have hy_12 := hy_11.below b12; have k_12 := k_11.below b12; have k2_12 := k2_11.below b12; have bx_12 := bx_11.below b12 bx_11.lt; have bk_12 := bk_11.below b12 bk_11.lt; have F12 := below_then F11 (Nat.le_refl _) b12; have lz := Nat.le_trans (z1.len hs1) a6)
      | (go_at_call 21; (with_reducible refine (rnum_q _ _ _ _ _ _ _ _ _ h_12 hn16 hm16).mono ?_); rintro e w13 ⟨s13, A13, n13, c13, rfl, z2, b13⟩; have h_13 := h_12.below b13; have hx_13 := hx_12.below b13; have hy_13 := hy_12.below b13; have k_13 := k_12.below b13; have k2_13 := k2_12.below b13; have z1_13 := z1.below b13; have bx_13 := bx_12.below b13 bx_12.lt; have bk_13 := bk_12.below b13 bk_12.lt; have F13 := below_then F12 (Nat.le_refl _) b13)
      | (go_at_call 19; (with_reducible refine (same_int _ _ _ _ _ _ _ _ _ _ z1_13 z2 lz).mono ?_); rintro e w14 ⟨rfl, b14⟩; have h_14 := h_13.below b14; have hx_14 := hx_13.below b14; have hy_14 := hy_13.below b14; have k_14 := k_13.below b14; have k2_14 := k2_13.below b14; have z1_14 := z1_13.below b14; have z2_14 := z2.below b14; have bx_14 := bx_13.below b14 bx_13.lt; have bk_14 := bk_13.below b14 bk_13.lt; have F14 := below_then F13 (Nat.le_refl _) b14)
      | (go_at_call 23; (with_reducible refine (den_q _ _ _ _ _ _ _ _ L _ HL.out h_14 hn16 hm16 3 a3 hs2).mono ?_); rintro e w15 ⟨A15, c15, rfl, d1, b15⟩; have h_15 := h_14.below b15; have hx_15 := hx_14.below b15; have hy_15 := hy_14.below b15; have k_15 := k_14.below b15; have k2_15 := k2_14.below b15; have z1_15 := z1_14.below b15; have z2_15 := z2_14.below b15; have bx_15 := bx_14.below b15 bx_14.lt; have bk_15 := bk_14.below b15 bk_14.lt; have F15 := below_then F14 (Nat.le_refl _) b15)
      | (go_at_call 24; (with_reducible refine (rden_q _ _ _ _ _ _ _ _ L _ HL.out h_15 hn16 hm16 3 a3 hs2).mono ?_); rintro e w16 ⟨A16, c16, rfl, d2, b16⟩; have h_16 := h_15.below b16; have hx_16 := hx_15.below b16; have hy_16 := hy_15.below b16; have k_16 := k_15.below b16; have k2_16 := k2_15.below b16; have z1_16 := z1_15.below b16; have z2_16 := z2_15.below b16; have d1_16 := d1.below b16; have bx_16 := bx_15.below b16 bx_15.lt; have bk_16 := bk_15.below b16 bk_15.lt; have F16 := below_then F15 (Nat.le_refl _) b16)
      | (go_at_call 22; (with_reducible refine (same_b _ _ _ _ _ _ _ d1_16 d2 lL).mono ?_); rintro e w17 ⟨rfl, b17⟩; have h_17 := h_16.below b17; have hx_17 := hx_16.below b17; have hy_17 := hy_16.below b17; have k_17 := k_16.below b17; have k2_17 := k2_16.below b17; have z1_17 := z1_16.below b17; have z2_17 := z2_16.below b17; have d1_17 := d1_16.below b17; have d2_17 := d2.below b17; have bx_17 := bx_16.below b17 bx_16.lt; have bk_17 := bk_16.below b17 bk_16.lt; have F17 := below_then F16 (Nat.le_refl _) b17)
      | (go_at_call 25; (with_reducible refine (sign_q _ _ _ _ _ _ _ _ _ _ HR.out h_17 hn16).mono ?_); rintro e w18 ⟨rfl, b18⟩; have h_18 := h_17.below b18; have hx_18 := hx_17.below b18; have hy_18 := hy_17.below b18; have k_18 := k_17.below b18; have k2_18 := k2_17.below b18; have z1_18 := z1_17.below b18; have z2_18 := z2_17.below b18; have d1_18 := d1_17.below b18; have d2_18 := d2_17.below b18; have bx_18 := bx_17.below b18 bx_17.lt; have bk_18 := bk_17.below b18 bk_17.lt; have F18 := below_then F17 (Nat.le_refl _) b18)
      | (go_at_call 26; (with_reducible refine (rsign_q _ _ _ _ _ _ _ _ _ _ HR.out h_18 hn16).mono ?_); rintro e w19 ⟨rfl, b19⟩; have h_19 := h_18.below b19; have hx_19 := hx_18.below b19; have hy_19 := hy_18.below b19; have k_19 := k_18.below b19; have k2_19 := k2_18.below b19; have z1_19 := z1_18.below b19; have z2_19 := z2_18.below b19; have d1_19 := d1_18.below b19; have d2_19 := d2_18.below b19; have bx_19 := bx_18.below b19 bx_18.lt; have bk_19 := bk_18.below b19 bk_18.lt; have F19 := below_then F18 (Nat.le_refl _) b19)
      | fail)
  have bx_u19 := bx_19.cell0
  have bx_v19 := bx_19.cell1
  have bx_w19 := bx_19.cell2
  have bk_u19 := bk_19.cell0
  have bk_v19 := bk_19.cell1
  have bk_w19 := bk_19.cell2
  go_wp2
  go_ret
  exact ⟨rfl, F19⟩
end Go.Proofs.Ytabgniijlofapaa
