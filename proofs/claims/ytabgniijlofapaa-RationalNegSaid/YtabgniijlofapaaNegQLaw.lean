/-
  A walk of stage 3.
-/
import Derived.Test.YtabgniijlofapaaL0
namespace Go.Proofs.Ytabgniijlofapaa
open Go.RowKit
set_option linter.unusedVariables false
set_option linter.unusedSimpArgs false

theorem lneg_long (s : Bool) (A : Option Addr) (n c : Nat) (B : Option Addr) (m d : Nat) (w : World) (hn : ¬ (n ≤ 3 ∧ m ≤ 3)) :
    Calls Try.prog 11 #[.agg #[.bool s, .slice A n c, .slice B m d]] w fun e w' => e = .returned (.bool true) ∧ Below w.heap.size w w' := by
  have hf := hide (decide_eq_false hn)
  clear hn
  have bx_1 : Sq ((w).alloc (EQ s A n c B m d)) (w.heap.size) (.bool s) (.slice A n c) (.slice B m d) := by have h_ := Sq.new (w) (.bool s) (.slice A n c) (.slice B m d); exact h_
  have F1 := (Below.refl w.heap.size w).alloc (Nat.le_refl _) (EQ s A n c B m d)
  go_enter Try.func11, Try.ntmps11
  go_wp2_with fail
  refine (awake_q _).mono ?_
  rintro e w2 ⟨rfl, b2⟩
  have bx_2 := bx_1.below b2 bx_1.lt
  have F2 := below_then F1 (Nat.le_refl _) b2
  have bx_u2 := bx_2.cell0
  have bx_v2 := bx_2.cell1
  have bx_w2 := bx_2.cell2
  go_wp2_with fail
  refine (few_q _ _ _ _ _ _ _ _ _ hf.out).mono ?_
  rintro e w3 ⟨rfl, b3⟩
  have bx_3 := bx_2.below b3 bx_2.lt
  have F3 := below_then F2 (Nat.le_refl _) b3
  have bx_u3 := bx_3.cell0
  have bx_v3 := bx_3.cell1
  have bx_w3 := bx_3.cell2
  go_wp2
  go_ret
  exact ⟨rfl, F3⟩
set_option maxHeartbeats 2000000 in
theorem lneg (s : Bool) (A : Option Addr) (n c : Nat) (B : Option Addr) (m d : Nat) (q : Rat) (r r' : Int) (w : World) (h : Iq w s A n c B m d q) (hn : n ≤ 3 ∧ m ≤ 3) (hr : sz q.num = r) (hr' : sz (-q).num = r') (hrr : r = -1 ∧ r' = 1 ∨ r = 0 ∧ r' = 0 ∨ r = 1 ∧ r' = -1) :
    Calls Try.prog 11 #[.agg #[.bool s, .slice A n c, .slice B m d]] w fun e w' => e = .returned (.bool true) ∧ Below w.heap.size w w' := by
  have hf := hide (decide_eq_true hn)
  have hn4 : n ≤ 4000 := by omega
  have hm4 : m ≤ 4000 := by omega
  have hn16 : n ≤ 16384 := by omega
  have hm16 : m ≤ 16384 := by omega
  have hs : Qs 3 q := h.size hn.1 hn.2 (by omega)
  have a3 : 3 ≤ 16384 := by omega
  have a4 : 3 ≤ 4000 := by omega
  have hs2 : Qs 3 (-q) := size_neg hs
  have HR := hide hr
  have HR' := hide hr'
  have HZ := hide (show q + -q = 0 from Rat.add_neg_cancel q)
  have hs0 : Qs 3 0 := ⟨Nat.lt_of_lt_of_le (by decide : (0 : Rat).num.natAbs < pw 1) (pw_mono (by omega)), Nat.lt_of_lt_of_le (by decide : (0 : Rat).den < pw 1) (pw_mono (by omega))⟩
  clear hr hr' hn
  rcases hrr with ⟨rfl, rfl⟩ | ⟨rfl, rfl⟩ | ⟨rfl, rfl⟩
  all_goals
   have h_1 := h.alloc (EQ s A n c B m d)
   have bx_1 : Sq ((w).alloc (EQ s A n c B m d)) (w.heap.size) (.bool s) (.slice A n c) (.slice B m d) := by have h_ := Sq.new (w) (.bool s) (.slice A n c) (.slice B m d); exact h_
   have F1 := (Below.refl w.heap.size w).alloc (Nat.le_refl _) (EQ s A n c B m d)
   go_enter Try.func11, Try.ntmps11
   go_wp2_with fail
   refine (awake_q _).mono ?_
   rintro e w2 ⟨rfl, b2⟩
   have h_2 := h_1.below b2
   have bx_2 := bx_1.below b2 bx_1.lt
   have F2 := below_then F1 (Nat.le_refl _) b2
   have bx_u2 := bx_2.cell0
   have bx_v2 := bx_2.cell1
   have bx_w2 := bx_2.cell2
   go_wp2_with fail
   refine (few_q _ _ _ _ _ _ _ _ _ hf.out).mono ?_
   rintro e w3 ⟨rfl, b3⟩
   have h_3 := h_2.below b3
   have bx_3 := bx_2.below b3 bx_2.lt
   have F3 := below_then F2 (Nat.le_refl _) b3
   have bx_u3 := bx_3.cell0
   have bx_v3 := bx_3.cell1
   have bx_w3 := bx_3.cell2
   go_wp2_with fail
   refine (neg_q _ _ _ _ _ _ _ _ _ h_3 hn16 hm16).mono ?_
   rintro e w4 ⟨s4, A4, n4, c4, B4, m4, d4, rfl, k, b4⟩
   have h_4 := h_3.below b4
   have bx_4 := bx_3.below b4 bx_3.lt
   have F4 := below_then F3 (Nat.le_refl _) b4
   have bx_u4 := bx_4.cell0
   have bx_v4 := bx_4.cell1
   have bx_w4 := bx_4.cell2
   have lk := k.tiny hs2
   have mk := And.intro (Nat.le_trans lk.1 a3) (Nat.le_trans lk.2 a3)
   have qk := And.intro (Nat.le_trans lk.1 a4) (Nat.le_trans lk.2 a4)
   have lt_bk_bx := bx_4.lt
   have h_5 := h_4.alloc (EQ s4 A4 n4 c4 B4 m4 d4)
   have k_5 := k.alloc (EQ s4 A4 n4 c4 B4 m4 d4)
   have bx_5 := bx_4.alloc (EQ s4 A4 n4 c4 B4 m4 d4)
   have bk_5 : Sq ((w4).alloc (EQ s4 A4 n4 c4 B4 m4 d4)) (w4.heap.size) (.bool s4) (.slice A4 n4 c4) (.slice B4 m4 d4) := by have h_ := Sq.new (w4) (.bool s4) (.slice A4 n4 c4) (.slice B4 m4 d4); exact h_
   have F5 := F4.alloc F4.size (EQ s4 A4 n4 c4 B4 m4 d4)
   go_wp2_with fail
   have h_6 := h_5.drew
   have k_6 := k_5.drew
   have bx_6 := bx_5.drew
   have bk_6 := bk_5.drew
   have F6 := F5.drew
   go_region_held3 (fun w' => w'.cell? ⟨w.heap.size, 0, none⟩ = some (.bool s) ∧ w'.cell? ⟨w.heap.size, 1, none⟩ = some (.slice A n c) ∧ w'.cell? ⟨w.heap.size, 2, none⟩ = some (.slice B m d) ∧ w'.cell? ⟨w4.heap.size, 0, none⟩ = some (.bool s4) ∧ w'.cell? ⟨w4.heap.size, 1, none⟩ = some (.slice A4 n4 c4) ∧ w'.cell? ⟨w4.heap.size, 2, none⟩ = some (.slice B4 m4 d4))
     (first
       | with_reducible exact ⟨bx_12.cell0, bx_12.cell1, bx_12.cell2, bk_12.cell0, bk_12.cell1, bk_12.cell2⟩
       | with_reducible exact ⟨bx_11.cell0, bx_11.cell1, bx_11.cell2, bk_11.cell0, bk_11.cell1, bk_11.cell2⟩
       | with_reducible exact ⟨bx_10.cell0, bx_10.cell1, bx_10.cell2, bk_10.cell0, bk_10.cell1, bk_10.cell2⟩
       | with_reducible exact ⟨bx_9.cell0, bx_9.cell1, bx_9.cell2, bk_9.cell0, bk_9.cell1, bk_9.cell2⟩
       | with_reducible exact ⟨bx_8.cell0, bx_8.cell1, bx_8.cell2, bk_8.cell0, bk_8.cell1, bk_8.cell2⟩
       | with_reducible exact ⟨bx_7.cell0, bx_7.cell1, bx_7.cell2, bk_7.cell0, bk_7.cell1, bk_7.cell2⟩
       | with_reducible exact ⟨bx_6.cell0, bx_6.cell1, bx_6.cell2, bk_6.cell0, bk_6.cell1, bk_6.cell2⟩
       | fail)
     (first
       | (go_at_call 53; (with_reducible refine (rneg_q _ _ _ _ _ _ _ _ _ h_6 hn16 hm16).mono ?_); rintro e w7 ⟨s7, A7, n7, c7, B7, m7, d7, rfl, k2, b7⟩; have h_7 := h_6.below b7; have k_7 := k_6.below b7; have bx_7 := bx_6.below b7 bx_6.lt; have bk_7 := bk_6.below b7 bk_6.lt; have F7 := below_then F6 (Nat.le_refl _) b7)
       | (go_at_call 15; (with_reducible refine (same_q _ _ _ _ _ _ _ _ _ _ _ _ _ _ _ _ k_7 k2 mk.1 mk.2).mono ?_); rintro e w8 ⟨rfl, b8⟩; have h_8 := h_7.below b8; have k_8 := k_7.below b8; have k2_8 := k2.below b8; have bx_8 := bx_7.below b8 bx_7.lt; have bk_8 := bk_7.below b8 bk_7.lt; have F8 := below_then F7 (Nat.le_refl _) b8)
       | (go_at_call 33; (with_reducible refine (add_q _ _ _ _ _ _ _ _ _ _ _ _ _ _ _ _ _ _ HZ.out h_8 k_8.iq hn4 hm4 qk.1 qk.2).mono ?_); rintro e w9 ⟨s9, A9, n9, c9, B9, m9, d9, rfl, z, b9⟩; have h_9 := h_8.below b9; have k_9 := k_8.below b9; have k2_9 := k2_8.below b9; have bx_9 := bx_8.below b9 bx_8.lt; have bk_9 := bk_8.below b9 bk_8.lt; have F9 := below_then F8 (Nat.le_refl _) b9; have lz := z.tiny hs0; have mz := And.intro (Nat.le_trans lz.1 a3) (Nat.le_trans lz.2 a3))
       | (go_at_call 15; (with_reducible refine (same_q _ _ _ _ _ _ _ _ _ _ _ _ _ _ _ _ z (cq_zero _) mz.1 mz.2).mono ?_); rintro e w10 ⟨rfl, b10⟩; have h_10 := h_9.below b10; have k_10 := k_9.below b10; have k2_10 := k2_9.below b10; have z_10 := z.below b10; have bx_10 := bx_9.below b10 bx_9.lt; have bk_10 := bk_9.below b10 bk_9.lt; have F10 := below_then F9 (Nat.le_refl _) b10)
       | (go_at_call 25; (with_reducible refine (sign_q _ _ _ _ _ _ _ _ _ _ HR'.out k_10.iq mk.1).mono ?_); rintro e w11 ⟨rfl, b11⟩; have h_11 := h_10.below b11; have k_11 := k_10.below b11; have k2_11 := k2_10.below b11; have z_11 := z_10.below b11; have bx_11 := bx_10.below b11 bx_10.lt; have bk_11 := bk_10.below b11 bk_10.lt; have F11 := below_then F10 (Nat.le_refl _) b11)
       | (go_at_call 25; (with_reducible refine (sign_q _ _ _ _ _ _ _ _ _ _ HR.out h_11 hn16).mono ?_); rintro e w12 ⟨rfl, b12⟩; have h_12 := h_11.below b12; have k_12 := k_11.below b12; have k2_12 := k2_11.below b12; have z_12 := z_11.below b12; have bx_12 := bx_11.below b12 bx_11.lt; have bk_12 := bk_11.below b12 bk_11.lt; have F12 := below_then F11 (Nat.le_refl _) b12)
       | fail)
   have bx_u12 := bx_12.cell0
   have bx_v12 := bx_12.cell1
   have bx_w12 := bx_12.cell2
   have bk_u12 := bk_12.cell0
   have bk_v12 := bk_12.cell1
   have bk_w12 := bk_12.cell2
   go_wp2
   go_ret
   exact ⟨rfl, F12⟩
end Go.Proofs.Ytabgniijlofapaa
