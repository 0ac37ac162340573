/-
  A walk of stage 3.
-/
import Derived.Test.YtabgniijlofapaaL0
import Derived.Deep.DeepCutAuto
import Derived.Deep.CutBlock
namespace Go.Proofs.Ytabgniijlofapaa
open Go.RowKit
set_option linter.unusedVariables false
set_option linter.unusedSimpArgs false

theorem Cq.tiny6 {w : World} {s : Bool} {A B : Option Addr} {n c m d k : Nat} {q : Rat} (h : Cq w s A n c B m d q) (hs : Qs k q) (hk : k ≤ 16384) : n ≤ 16384 ∧ m ≤ 16384 := ⟨Nat.le_trans (h.ln hs.1) hk, Nat.le_trans (h.ld hs.2) hk⟩
theorem lsimplest_long (s t : Bool) (A B A' B' : Option Addr) (n c m d n' c' m' d' : Nat) (w : World) (hn : ¬ (n ≤ 2 ∧ m ≤ 2 ∧ n' ≤ 2 ∧ m' ≤ 2)) :
    Calls Try.prog 9 #[.agg #[.bool s, .slice A n c, .slice B m d], .agg #[.bool t, .slice A' n' c', .slice B' m' d']] w fun e w' => e = .returned (.bool true) ∧ Below w.heap.size w w' := by
  have F : ∀ (b1 b2 b3 b4 : Bool), decide ((2 : Int) < (n : Int)) = b1 → decide ((2 : Int) < (m : Int)) = b2 → decide ((2 : Int) < (n' : Int)) = b3 → decide ((2 : Int) < (m' : Int)) = b4 → (b1 || b2 || b3 || b4) = true →
      Calls Try.prog 9 #[.agg #[.bool s, .slice A n c, .slice B m d], .agg #[.bool t, .slice A' n' c', .slice B' m' d']] w fun e w' => e = .returned (.bool true) ∧ Below w.heap.size w w' := by
    intro b1 b2 b3 b4 h1 h2 h3 h4 hb
    clear hn
    cases b1 <;> cases b2 <;> cases b3 <;> cases b4
    all_goals first
      | (exfalso; revert hb; decide)
      | skip
    all_goals
     have ba_1 : Sq ((w).alloc (EQ s A n c B m d)) (w.heap.size) (.bool s) (.slice A n c) (.slice B m d) := by have h_ := Sq.new (w) (.bool s) (.slice A n c) (.slice B m d); exact h_
     have F1 := (Below.refl w.heap.size w).alloc (Nat.le_refl _) (EQ s A n c B m d)
     have ba_2 := ba_1.alloc (EQ t A' n' c' B' m' d')
     have bb_2 : Sq (((w).alloc (EQ s A n c B m d)).alloc (EQ t A' n' c' B' m' d')) (w.heap.size + 1) (.bool t) (.slice A' n' c') (.slice B' m' d') := by have h_ := Sq.new ((w).alloc (EQ s A n c B m d)) (.bool t) (.slice A' n' c') (.slice B' m' d'); simp only [World.size_alloc] at h_; exact h_
     have F2 := F1.alloc F1.size (EQ t A' n' c' B' m' d')
     go_enter Try.func9, Try.ntmps9
     go_wp2_with fail
     refine (awake_q _).mono ?_
     rintro e w3 ⟨rfl, b3⟩
     have ba_3 := ba_2.below b3 ba_2.lt
     have bb_3 := bb_2.below b3 bb_2.lt
     have F3 := below_then F2 (Nat.le_refl _) b3
     have ba_u3 := ba_3.cell0
     have ba_v3 := ba_3.cell1
     have ba_w3 := ba_3.cell2
     have bb_u3 := bb_3.cell0
     have bb_v3 := bb_3.cell1
     have bb_w3 := bb_3.cell2
     go_wp2
     go_ret
     exact ⟨rfl, F3⟩
  refine F _ _ _ _ rfl rfl rfl rfl ?_
  have : 2 < n ∨ 2 < m ∨ 2 < n' ∨ 2 < m' := by omega
  rcases this with h | h | h | h <;> simp <;> omega
set_option maxHeartbeats 2000000 in
theorem lsimplest (s t : Bool) (A B A' B' : Option Addr) (n c m d n' c' m' d' : Nat) (p q : Rat) (w : World) (h : Iq w s A n c B m d p) (k : Iq w t A' n' c' B' m' d' q) (hn : n ≤ 2 ∧ m ≤ 2 ∧ n' ≤ 2 ∧ m' ≤ 2) (hpq : p ≤ q) :
    Calls Try.prog 9 #[.agg #[.bool s, .slice A n c, .slice B m d], .agg #[.bool t, .slice A' n' c', .slice B' m' d']] w fun e w' => e = .returned (.bool true) ∧ Below w.heap.size w w' := by
  have d1 : decide ((2 : Int) < (n : Int)) = false := by simp; omega
  have d2 : decide ((2 : Int) < (m : Int)) = false := by simp; omega
  have d3 : decide ((2 : Int) < (n' : Int)) = false := by simp; omega
  have d4 : decide ((2 : Int) < (m' : Int)) = false := by simp; omega
  have ln : n ≤ 2 := hn.1
  have lm : m ≤ 2 := hn.2.1
  have ln' : n' ≤ 2 := hn.2.2.1
  have lm' : m' ≤ 2 := hn.2.2.2
  have k2 : 2 ≤ 1000 := by omega
  have k1 : 1 ≤ 2 := by omega
  have HP := hide hpq
  have hs : Qs 2 p := h.size ln lm (by omega)
  have sx : Qs 2 (smp p q) := by
    have := (smp_simple p q hpq).2.2 p Rat.le_refl hpq
    exact ⟨Nat.lt_of_le_of_lt this.2 hs.1, Nat.lt_of_le_of_lt this.1 hs.2⟩
  clear hn hpq
  have h_1 := h.alloc (EQ s A n c B m d)
  have k_1 := k.alloc (EQ s A n c B m d)
  have ba_1 : Sq ((w).alloc (EQ s A n c B m d)) (w.heap.size) (.bool s) (.slice A n c) (.slice B m d) := by have h_ := Sq.new (w) (.bool s) (.slice A n c) (.slice B m d); exact h_
  have F1 := (Below.refl w.heap.size w).alloc (Nat.le_refl _) (EQ s A n c B m d)
  have h_2 := h_1.alloc (EQ t A' n' c' B' m' d')
  have k_2 := k_1.alloc (EQ t A' n' c' B' m' d')
  have ba_2 := ba_1.alloc (EQ t A' n' c' B' m' d')
  have bb_2 : Sq (((w).alloc (EQ s A n c B m d)).alloc (EQ t A' n' c' B' m' d')) (w.heap.size + 1) (.bool t) (.slice A' n' c') (.slice B' m' d') := by have h_ := Sq.new ((w).alloc (EQ s A n c B m d)) (.bool t) (.slice A' n' c') (.slice B' m' d'); simp only [World.size_alloc] at h_; exact h_
  have F2 := F1.alloc F1.size (EQ t A' n' c' B' m' d')
  go_enter Try.func9, Try.ntmps9
  go_wp2_with fail
  refine (awake_q _).mono ?_
  rintro e w3 ⟨rfl, b3⟩
  have h_3 := h_2.below b3
  have k_3 := k_2.below b3
  have ba_3 := ba_2.below b3 ba_2.lt
  have bb_3 := bb_2.below b3 bb_2.lt
  have F3 := below_then F2 (Nat.le_refl _) b3
  have ba_u3 := ba_3.cell0
  have ba_v3 := ba_3.cell1
  have ba_w3 := ba_3.cell2
  have bb_u3 := bb_3.cell0
  have bb_v3 := bb_3.cell1
  have bb_w3 := bb_3.cell2
  go_wp2_with fail
  refine (simplest_q _ _ _ _ _ _ _ _ _ _ _ _ _ _ _ _ _ 2 k2 k1 h_3 k_3 ln lm ln' lm' HP.out).mono ?_
  rintro e w4 ⟨s4, A4, n4, c4, B4, m4, d4, rfl, x, b4⟩
  have h_4 := h_3.below b4
  have k_4 := k_3.below b4
  have ba_4 := ba_3.below b4 ba_3.lt
  have bb_4 := bb_3.below b4 bb_3.lt
  have F4 := below_then F3 (Nat.le_refl _) b4
  have ba_u4 := ba_4.cell0
  have ba_v4 := ba_4.cell1
  have ba_w4 := ba_4.cell2
  have bb_u4 := bb_4.cell0
  have bb_v4 := bb_4.cell1
  have bb_w4 := bb_4.cell2
  have lt_bx_ba := ba_4.lt
  have lt_bx_bb := bb_4.lt
  have h_5 := h_4.alloc (EQ s4 A4 n4 c4 B4 m4 d4)
  have k_5 := k_4.alloc (EQ s4 A4 n4 c4 B4 m4 d4)
  have x_5 := x.alloc (EQ s4 A4 n4 c4 B4 m4 d4)
  have ba_5 := ba_4.alloc (EQ s4 A4 n4 c4 B4 m4 d4)
  have bb_5 := bb_4.alloc (EQ s4 A4 n4 c4 B4 m4 d4)
  have bx_5 : Sq ((w4).alloc (EQ s4 A4 n4 c4 B4 m4 d4)) (w4.heap.size) (.bool s4) (.slice A4 n4 c4) (.slice B4 m4 d4) := by have h_ := Sq.new (w4) (.bool s4) (.slice A4 n4 c4) (.slice B4 m4 d4); exact h_
  have F5 := F4.alloc F4.size (EQ s4 A4 n4 c4 B4 m4 d4)
  have ba_u5 := ba_5.cell0
  have ba_v5 := ba_5.cell1
  have ba_w5 := ba_5.cell2
  have bb_u5 := bb_5.cell0
  have bb_v5 := bb_5.cell1
  have bb_w5 := bb_5.cell2
  have bx_u5 := bx_5.cell0
  have bx_v5 := bx_5.cell1
  have bx_w5 := bx_5.cell2
  go_wp2_with fail
  refine (rsimplest_q _ _ _ _ _ _ _ _ _ _ _ _ _ _ _ _ _ 2 k2 k1 h_5 k_5 ln lm ln' lm' HP.out).mono ?_
  rintro e w6 ⟨s6, A6, n6, c6, B6, m6, d6, rfl, y, b6⟩
  have h_6 := h_5.below b6
  have k_6 := k_5.below b6
  have x_6 := x_5.below b6
  have ba_6 := ba_5.below b6 ba_5.lt
  have bb_6 := bb_5.below b6 bb_5.lt
  have bx_6 := bx_5.below b6 bx_5.lt
  have F6 := below_then F5 (Nat.le_refl _) b6
  have ba_u6 := ba_6.cell0
  have ba_v6 := ba_6.cell1
  have ba_w6 := ba_6.cell2
  have bb_u6 := bb_6.cell0
  have bb_v6 := bb_6.cell1
  have bb_w6 := bb_6.cell2
  have bx_u6 := bx_6.cell0
  have bx_v6 := bx_6.cell1
  have bx_w6 := bx_6.cell2
  have lt_by__ba := ba_6.lt
  have lt_by__bb := bb_6.lt
  have lt_by__bx := bx_6.lt
  have h_7 := h_6.alloc (EQ s6 A6 n6 c6 B6 m6 d6)
  have k_7 := k_6.alloc (EQ s6 A6 n6 c6 B6 m6 d6)
  have x_7 := x_6.alloc (EQ s6 A6 n6 c6 B6 m6 d6)
  have y_7 := y.alloc (EQ s6 A6 n6 c6 B6 m6 d6)
  have ba_7 := ba_6.alloc (EQ s6 A6 n6 c6 B6 m6 d6)
  have bb_7 := bb_6.alloc (EQ s6 A6 n6 c6 B6 m6 d6)
  have bx_7 := bx_6.alloc (EQ s6 A6 n6 c6 B6 m6 d6)
  have by__7 : Sq ((w6).alloc (EQ s6 A6 n6 c6 B6 m6 d6)) (w6.heap.size) (.bool s6) (.slice A6 n6 c6) (.slice B6 m6 d6) := by have h_ := Sq.new (w6) (.bool s6) (.slice A6 n6 c6) (.slice B6 m6 d6); exact h_
  have F7 := F6.alloc F6.size (EQ s6 A6 n6 c6 B6 m6 d6)
  have ba_u7 := ba_7.cell0
  have ba_v7 := ba_7.cell1
  have ba_w7 := ba_7.cell2
  have bb_u7 := bb_7.cell0
  have bb_v7 := bb_7.cell1
  have bb_w7 := bb_7.cell2
  have bx_u7 := bx_7.cell0
  have bx_v7 := bx_7.cell1
  have bx_w7 := bx_7.cell2
  have by__u7 := by__7.cell0
  have by__v7 := by__7.cell1
  have by__w7 := by__7.cell2
  have lx := x_7.tiny6 sx (by omega)
  go_wp2_with fail
  refine (same_q _ _ _ _ _ _ _ _ _ _ _ _ _ _ _ _ x_7 y_7 lx.1 lx.2).mono ?_
  rintro e w8 ⟨rfl, b8⟩
  have h_8 := h_7.below b8
  have k_8 := k_7.below b8
  have x_8 := x_7.below b8
  have y_8 := y_7.below b8
  have ba_8 := ba_7.below b8 ba_7.lt
  have bb_8 := bb_7.below b8 bb_7.lt
  have bx_8 := bx_7.below b8 bx_7.lt
  have by__8 := by__7.below b8 by__7.lt
  have F8 := below_then F7 (Nat.le_refl _) b8
  have ba_u8 := ba_8.cell0
  have ba_v8 := ba_8.cell1
  have ba_w8 := ba_8.cell2
  have bb_u8 := bb_8.cell0
  have bb_v8 := bb_8.cell1
  have bb_w8 := bb_8.cell2
  have bx_u8 := bx_8.cell0
  have bx_v8 := bx_8.cell1
  have bx_w8 := bx_8.cell2
  have by__u8 := by__8.cell0
  have by__v8 := by__8.cell1
  have by__w8 := by__8.cell2
  go_wp2
  go_ret
  exact ⟨rfl, F8⟩
set_option maxHeartbeats 2000000 in
theorem lsimplest0 (s t : Bool) (A B A' B' : Option Addr) (n c m d n' c' m' d' : Nat) (p q : Rat) (w : World) (h : Iq w s A n c B m d p) (k : Iq w t A' n' c' B' m' d' q) (hn : n ≤ 2 ∧ m ≤ 2 ∧ n' ≤ 2 ∧ m' ≤ 2) (hpq : ¬ p ≤ q) :
    Calls Try.prog 9 #[.agg #[.bool s, .slice A n c, .slice B m d], .agg #[.bool t, .slice A' n' c', .slice B' m' d']] w fun e w' => e = .returned (.bool true) ∧ Below w.heap.size w w' := by
  have d1 : decide ((2 : Int) < (n : Int)) = false := by simp; omega
  have d2 : decide ((2 : Int) < (m : Int)) = false := by simp; omega
  have d3 : decide ((2 : Int) < (n' : Int)) = false := by simp; omega
  have d4 : decide ((2 : Int) < (m' : Int)) = false := by simp; omega
  have ln : n ≤ 2 := hn.1
  have lm : m ≤ 2 := hn.2.1
  have ln' : n' ≤ 2 := hn.2.2.1
  have lm' : m' ≤ 2 := hn.2.2.2
  have k2 : 2 ≤ 1000 := by omega
  have k1 : 1 ≤ 2 := by omega
  have HP := hide hpq
  have sx : Qs 1 0 := ⟨by decide, by decide⟩
  clear hn hpq
  have h_1 := h.alloc (EQ s A n c B m d)
  have k_1 := k.alloc (EQ s A n c B m d)
  have ba_1 : Sq ((w).alloc (EQ s A n c B m d)) (w.heap.size) (.bool s) (.slice A n c) (.slice B m d) := by have h_ := Sq.new (w) (.bool s) (.slice A n c) (.slice B m d); exact h_
  have F1 := (Below.refl w.heap.size w).alloc (Nat.le_refl _) (EQ s A n c B m d)
  have h_2 := h_1.alloc (EQ t A' n' c' B' m' d')
  have k_2 := k_1.alloc (EQ t A' n' c' B' m' d')
  have ba_2 := ba_1.alloc (EQ t A' n' c' B' m' d')
  have bb_2 : Sq (((w).alloc (EQ s A n c B m d)).alloc (EQ t A' n' c' B' m' d')) (w.heap.size + 1) (.bool t) (.slice A' n' c') (.slice B' m' d') := by have h_ := Sq.new ((w).alloc (EQ s A n c B m d)) (.bool t) (.slice A' n' c') (.slice B' m' d'); simp only [World.size_alloc] at h_; exact h_
  have F2 := F1.alloc F1.size (EQ t A' n' c' B' m' d')
  go_enter Try.func9, Try.ntmps9
  go_wp2_with fail
  refine (awake_q _).mono ?_
  rintro e w3 ⟨rfl, b3⟩
  have h_3 := h_2.below b3
  have k_3 := k_2.below b3
  have ba_3 := ba_2.below b3 ba_2.lt
  have bb_3 := bb_2.below b3 bb_2.lt
  have F3 := below_then F2 (Nat.le_refl _) b3
  have ba_u3 := ba_3.cell0
  have ba_v3 := ba_3.cell1
  have ba_w3 := ba_3.cell2
  have bb_u3 := bb_3.cell0
  have bb_v3 := bb_3.cell1
  have bb_w3 := bb_3.cell2
  go_wp2_with fail
  refine (simplest_range _ _ _ _ _ _ _ _ _ _ _ _ _ _ _ _ _ 2 k2 k1 h_3 k_3 ln lm ln' lm' HP.out).mono ?_
  rintro e w4 ⟨s4, A4, n4, c4, B4, m4, d4, rfl, x, b4⟩
  have h_4 := h_3.below b4
  have k_4 := k_3.below b4
  have ba_4 := ba_3.below b4 ba_3.lt
  have bb_4 := bb_3.below b4 bb_3.lt
  have F4 := below_then F3 (Nat.le_refl _) b4
  have ba_u4 := ba_4.cell0
  have ba_v4 := ba_4.cell1
  have ba_w4 := ba_4.cell2
  have bb_u4 := bb_4.cell0
  have bb_v4 := bb_4.cell1
  have bb_w4 := bb_4.cell2
  have lt_bx_ba := ba_4.lt
  have lt_bx_bb := bb_4.lt
  have h_5 := h_4.alloc (EQ s4 A4 n4 c4 B4 m4 d4)
  have k_5 := k_4.alloc (EQ s4 A4 n4 c4 B4 m4 d4)
  have x_5 := x.alloc (EQ s4 A4 n4 c4 B4 m4 d4)
  have ba_5 := ba_4.alloc (EQ s4 A4 n4 c4 B4 m4 d4)
  have bb_5 := bb_4.alloc (EQ s4 A4 n4 c4 B4 m4 d4)
  have bx_5 : Sq ((w4).alloc (EQ s4 A4 n4 c4 B4 m4 d4)) (w4.heap.size) (.bool s4) (.slice A4 n4 c4) (.slice B4 m4 d4) := by have h_ := Sq.new (w4) (.bool s4) (.slice A4 n4 c4) (.slice B4 m4 d4); exact h_
  have F5 := F4.alloc F4.size (EQ s4 A4 n4 c4 B4 m4 d4)
  have ba_u5 := ba_5.cell0
  have ba_v5 := ba_5.cell1
  have ba_w5 := ba_5.cell2
  have bb_u5 := bb_5.cell0
  have bb_v5 := bb_5.cell1
  have bb_w5 := bb_5.cell2
  have bx_u5 := bx_5.cell0
  have bx_v5 := bx_5.cell1
  have bx_w5 := bx_5.cell2
  go_wp2_with fail
  refine (smp_range _ _ _ _ _ _ _ _ _ _ _ _ _ _ _ _ _ 2 k2 k1 h_5 k_5 ln lm ln' lm' HP.out).mono ?_
  rintro e w6 ⟨s6, A6, n6, c6, B6, m6, d6, rfl, y, b6⟩
  have h_6 := h_5.below b6
  have k_6 := k_5.below b6
  have x_6 := x_5.below b6
  have ba_6 := ba_5.below b6 ba_5.lt
  have bb_6 := bb_5.below b6 bb_5.lt
  have bx_6 := bx_5.below b6 bx_5.lt
  have F6 := below_then F5 (Nat.le_refl _) b6
  have ba_u6 := ba_6.cell0
  have ba_v6 := ba_6.cell1
  have ba_w6 := ba_6.cell2
  have bb_u6 := bb_6.cell0
  have bb_v6 := bb_6.cell1
  have bb_w6 := bb_6.cell2
  have bx_u6 := bx_6.cell0
  have bx_v6 := bx_6.cell1
  have bx_w6 := bx_6.cell2
  have lt_by__ba := ba_6.lt
  have lt_by__bb := bb_6.lt
  have lt_by__bx := bx_6.lt
  have h_7 := h_6.alloc (EQ s6 A6 n6 c6 B6 m6 d6)
  have k_7 := k_6.alloc (EQ s6 A6 n6 c6 B6 m6 d6)
  have x_7 := x_6.alloc (EQ s6 A6 n6 c6 B6 m6 d6)
  have y_7 := y.alloc (EQ s6 A6 n6 c6 B6 m6 d6)
  have ba_7 := ba_6.alloc (EQ s6 A6 n6 c6 B6 m6 d6)
  have bb_7 := bb_6.alloc (EQ s6 A6 n6 c6 B6 m6 d6)
  have bx_7 := bx_6.alloc (EQ s6 A6 n6 c6 B6 m6 d6)
  have by__7 : Sq ((w6).alloc (EQ s6 A6 n6 c6 B6 m6 d6)) (w6.heap.size) (.bool s6) (.slice A6 n6 c6) (.slice B6 m6 d6) := by have h_ := Sq.new (w6) (.bool s6) (.slice A6 n6 c6) (.slice B6 m6 d6); exact h_
  have F7 := F6.alloc F6.size (EQ s6 A6 n6 c6 B6 m6 d6)
  have ba_u7 := ba_7.cell0
  have ba_v7 := ba_7.cell1
  have ba_w7 := ba_7.cell2
  have bb_u7 := bb_7.cell0
  have bb_v7 := bb_7.cell1
  have bb_w7 := bb_7.cell2
  have bx_u7 := bx_7.cell0
  have bx_v7 := bx_7.cell1
  have bx_w7 := bx_7.cell2
  have by__u7 := by__7.cell0
  have by__v7 := by__7.cell1
  have by__w7 := by__7.cell2
  have lx := x_7.tiny6 sx (by omega)
  go_wp2_with fail
  refine (same_q _ _ _ _ _ _ _ _ _ _ _ _ _ _ _ _ x_7 y_7 lx.1 lx.2).mono ?_
  rintro e w8 ⟨rfl, b8⟩
  have h_8 := h_7.below b8
  have k_8 := k_7.below b8
  have x_8 := x_7.below b8
  have y_8 := y_7.below b8
  have ba_8 := ba_7.below b8 ba_7.lt
  have bb_8 := bb_7.below b8 bb_7.lt
  have bx_8 := bx_7.below b8 bx_7.lt
  have by__8 := by__7.below b8 by__7.lt
  have F8 := below_then F7 (Nat.le_refl _) b8
  have ba_u8 := ba_8.cell0
  have ba_v8 := ba_8.cell1
  have ba_w8 := ba_8.cell2
  have bb_u8 := bb_8.cell0
  have bb_v8 := bb_8.cell1
  have bb_w8 := bb_8.cell2
  have bx_u8 := bx_8.cell0
  have bx_v8 := bx_8.cell1
  have bx_w8 := bx_8.cell2
  have by__u8 := by__8.cell0
  have by__v8 := by__8.cell1
  have by__w8 := by__8.cell2
  go_wp2
  go_ret
  exact ⟨rfl, F8⟩
end Go.Proofs.Ytabgniijlofapaa
