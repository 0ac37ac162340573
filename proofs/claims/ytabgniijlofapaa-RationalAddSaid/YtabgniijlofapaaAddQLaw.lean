/-
  A walk of stage 3.
-/
import Derived.Test.YtabgniijlofapaaL0
import Derived.Deep.DeepCutAuto
import Derived.Deep.CutBlock
namespace Go.Proofs.Ytabgniijlofapaa
open Go.RowKit
set_option linter.unusedVariables false
set_option linter.unusedSimpArgs false

theorem Cq.tiny6 {w : World} {s : Bool} {A B : Option Addr} {n c m d k : Nat} {q : Rat} (h : Cq w s A n c B m d q) (hs : Qs k q) (hk : k ≤ 16384) : n ≤ 16384 ∧ m ≤ 16384 := ⟨Nat.le_trans (h.ln hs.1) hk, Nat.le_trans (h.ld hs.2) hk⟩
theorem ladd_long (s s' s'' : Bool) (A A' A'' : Option Addr) (n c n' c' n'' c'' : Nat) (B B' B'' : Option Addr) (m d m' d' m'' d'' : Nat) (w : World) (hn : ¬ ((n ≤ 3 ∧ m ≤ 3) ∧ (n' ≤ 3 ∧ m' ≤ 3) ∧ (n'' ≤ 3 ∧ m'' ≤ 3))) :
    Calls Try.prog 5 #[.agg #[.bool s, .slice A n c, .slice B m d], .agg #[.bool s', .slice A' n' c', .slice B' m' d'], .agg #[.bool s'', .slice A'' n'' c'', .slice B'' m'' d'']] w fun e w' => e = .returned (.bool true) ∧ Below w.heap.size w w' := by
  by_cases h1 : n ≤ 3 ∧ m ≤ 3
  · have hf1 := hide (decide_eq_true h1)
    by_cases h2 : n' ≤ 3 ∧ m' ≤ 3
    · have hf2 := hide (decide_eq_true h2)
      have hf3 := hide (decide_eq_false fun h3 => hn ⟨h1, h2, h3⟩)
      clear hn h1 h2
      have ba_1 : Sq ((w).alloc (EQ s A n c B m d)) (w.heap.size) (.bool s) (.slice A n c) (.slice B m d) := by have h_ := Sq.new (w) (.bool s) (.slice A n c) (.slice B m d); exact h_
      have F1 := (Below.refl w.heap.size w).alloc (Nat.le_refl _) (EQ s A n c B m d)
      have ba_2 := ba_1.alloc (EQ s' A' n' c' B' m' d')
      have bb_2 : Sq (((w).alloc (EQ s A n c B m d)).alloc (EQ s' A' n' c' B' m' d')) (w.heap.size + 1) (.bool s') (.slice A' n' c') (.slice B' m' d') := by have h_ := Sq.new ((w).alloc (EQ s A n c B m d)) (.bool s') (.slice A' n' c') (.slice B' m' d'); simp only [World.size_alloc] at h_; exact h_
      have F2 := F1.alloc F1.size (EQ s' A' n' c' B' m' d')
      have ba_3 := ba_2.alloc (EQ s'' A'' n'' c'' B'' m'' d'')
      have bb_3 := bb_2.alloc (EQ s'' A'' n'' c'' B'' m'' d'')
      have bc_3 : Sq ((((w).alloc (EQ s A n c B m d)).alloc (EQ s' A' n' c' B' m' d')).alloc (EQ s'' A'' n'' c'' B'' m'' d'')) (w.heap.size + 2) (.bool s'') (.slice A'' n'' c'') (.slice B'' m'' d'') := by have h_ := Sq.new (((w).alloc (EQ s A n c B m d)).alloc (EQ s' A' n' c' B' m' d')) (.bool s'') (.slice A'' n'' c'') (.slice B'' m'' d''); simp only [World.size_alloc] at h_; exact h_
      have F3 := F2.alloc F2.size (EQ s'' A'' n'' c'' B'' m'' d'')
      go_enter Try.func5, Try.ntmps5
      go_wp2_with fail
      refine (awake_q _).mono ?_
      rintro e w4 ⟨rfl, b4⟩
      have ba_4 := ba_3.below b4 ba_3.lt
      have bb_4 := bb_3.below b4 bb_3.lt
      have bc_4 := bc_3.below b4 bc_3.lt
      have F4 := below_then F3 (Nat.le_refl _) b4
      have ba_u4 := ba_4.cell0
      have ba_v4 := ba_4.cell1
      have ba_w4 := ba_4.cell2
      have bb_u4 := bb_4.cell0
      have bb_v4 := bb_4.cell1
      have bb_w4 := bb_4.cell2
      have bc_u4 := bc_4.cell0
      have bc_v4 := bc_4.cell1
      have bc_w4 := bc_4.cell2
      go_wp2_with fail
      refine (few_q _ _ _ _ _ _ _ _ _ hf1.out).mono ?_
      rintro e w5 ⟨rfl, b5⟩
      have ba_5 := ba_4.below b5 ba_4.lt
      have bb_5 := bb_4.below b5 bb_4.lt
      have bc_5 := bc_4.below b5 bc_4.lt
      have F5 := below_then F4 (Nat.le_refl _) b5
      have ba_u5 := ba_5.cell0
      have ba_v5 := ba_5.cell1
      have ba_w5 := ba_5.cell2
      have bb_u5 := bb_5.cell0
      have bb_v5 := bb_5.cell1
      have bb_w5 := bb_5.cell2
      have bc_u5 := bc_5.cell0
      have bc_v5 := bc_5.cell1
      have bc_w5 := bc_5.cell2
      go_wp2_with fail
      refine (few_q _ _ _ _ _ _ _ _ _ hf2.out).mono ?_
      rintro e w6 ⟨rfl, b6⟩
      have ba_6 := ba_5.below b6 ba_5.lt
      have bb_6 := bb_5.below b6 bb_5.lt
      have bc_6 := bc_5.below b6 bc_5.lt
      have F6 := below_then F5 (Nat.le_refl _) b6
      have ba_u6 := ba_6.cell0
      have ba_v6 := ba_6.cell1
      have ba_w6 := ba_6.cell2
      have bb_u6 := bb_6.cell0
      have bb_v6 := bb_6.cell1
      have bb_w6 := bb_6.cell2
      have bc_u6 := bc_6.cell0
      have bc_v6 := bc_6.cell1
      have bc_w6 := bc_6.cell2
      go_wp2_with fail
      refine (few_q _ _ _ _ _ _ _ _ _ hf3.out).mono ?_
      rintro e w7 ⟨rfl, b7⟩
      have ba_7 := ba_6.below b7 ba_6.lt
      have bb_7 := bb_6.below b7 bb_6.lt
      have bc_7 := bc_6.below b7 bc_6.lt
      have F7 := below_then F6 (Nat.le_refl _) b7
      have ba_u7 := ba_7.cell0
      have ba_v7 := ba_7.cell1
      have ba_w7 := ba_7.cell2
      have bb_u7 := bb_7.cell0
      have bb_v7 := bb_7.cell1
      have bb_w7 := bb_7.cell2
      have bc_u7 := bc_7.cell0
      have bc_v7 := bc_7.cell1
      have bc_w7 := bc_7.cell2
      go_wp2
      go_ret
      exact ⟨rfl, F7⟩
    · have hf2 := hide (decide_eq_false h2)
      clear hn h1 h2
      have ba_1 : Sq ((w).alloc (EQ s A n c B m d)) (w.heap.size) (.bool s) (.slice A n c) (.slice B m d) := by have h_ := Sq.new (w) (.bool s) (.slice A n c) (.slice B m d); exact h_
      have F1 := (Below.refl w.heap.size w).alloc (Nat.le_refl _) (EQ s A n c B m d)
      have ba_2 := ba_1.alloc (EQ s' A' n' c' B' m' d')
      have bb_2 : Sq (((w).alloc (EQ s A n c B m d)).alloc (EQ s' A' n' c' B' m' d')) (w.heap.size + 1) (.bool s') (.slice A' n' c') (.slice B' m' d') := by have h_ := Sq.new ((w).alloc (EQ s A n c B m d)) (.bool s') (.slice A' n' c') (.slice B' m' d'); simp only [World.size_alloc] at h_; exact h_
      have F2 := F1.alloc F1.size (EQ s' A' n' c' B' m' d')
      have ba_3 := ba_2.alloc (EQ s'' A'' n'' c'' B'' m'' d'')
      have bb_3 := bb_2.alloc (EQ s'' A'' n'' c'' B'' m'' d'')
      have bc_3 : Sq ((((w).alloc (EQ s A n c B m d)).alloc (EQ s' A' n' c' B' m' d')).alloc (EQ s'' A'' n'' c'' B'' m'' d'')) (w.heap.size + 2) (.bool s'') (.slice A'' n'' c'') (.slice B'' m'' d'') := by have h_ := Sq.new (((w).alloc (EQ s A n c B m d)).alloc (EQ s' A' n' c' B' m' d')) (.bool s'') (.slice A'' n'' c'') (.slice B'' m'' d''); simp only [World.size_alloc] at h_; exact h_
      have F3 := F2.alloc F2.size (EQ s'' A'' n'' c'' B'' m'' d'')
      go_enter Try.func5, Try.ntmps5
      go_wp2_with fail
      refine (awake_q _).mono ?_
      rintro e w4 ⟨rfl, b4⟩
      have ba_4 := ba_3.below b4 ba_3.lt
      have bb_4 := bb_3.below b4 bb_3.lt
      have bc_4 := bc_3.below b4 bc_3.lt
      have F4 := below_then F3 (Nat.le_refl _) b4
      have ba_u4 := ba_4.cell0
      have ba_v4 := ba_4.cell1
      have ba_w4 := ba_4.cell2
      have bb_u4 := bb_4.cell0
      have bb_v4 := bb_4.cell1
      have bb_w4 := bb_4.cell2
      have bc_u4 := bc_4.cell0
      have bc_v4 := bc_4.cell1
      have bc_w4 := bc_4.cell2
      go_wp2_with fail
      refine (few_q _ _ _ _ _ _ _ _ _ hf1.out).mono ?_
      rintro e w5 ⟨rfl, b5⟩
      have ba_5 := ba_4.below b5 ba_4.lt
      have bb_5 := bb_4.below b5 bb_4.lt
      have bc_5 := bc_4.below b5 bc_4.lt
      have F5 := below_then F4 (Nat.le_refl _) b5
      have ba_u5 := ba_5.cell0
      have ba_v5 := ba_5.cell1
      have ba_w5 := ba_5.cell2
      have bb_u5 := bb_5.cell0
      have bb_v5 := bb_5.cell1
      have bb_w5 := bb_5.cell2
      have bc_u5 := bc_5.cell0
      have bc_v5 := bc_5.cell1
      have bc_w5 := bc_5.cell2
      go_wp2_with fail
      refine (few_q _ _ _ _ _ _ _ _ _ hf2.out).mono ?_
      rintro e w6 ⟨rfl, b6⟩
      have ba_6 := ba_5.below b6 ba_5.lt
      have bb_6 := bb_5.below b6 bb_5.lt
      have bc_6 := bc_5.below b6 bc_5.lt
      have F6 := below_then F5 (Nat.le_refl _) b6
      have ba_u6 := ba_6.cell0
      have ba_v6 := ba_6.cell1
      have ba_w6 := ba_6.cell2
      have bb_u6 := bb_6.cell0
      have bb_v6 := bb_6.cell1
      have bb_w6 := bb_6.cell2
      have bc_u6 := bc_6.cell0
      have bc_v6 := bc_6.cell1
      have bc_w6 := bc_6.cell2
      go_wp2
      go_ret
      exact ⟨rfl, F6⟩
  · have hf1 := hide (decide_eq_false h1)
    clear hn h1
    have ba_1 : Sq ((w).alloc (EQ s A n c B m d)) (w.heap.size) (.bool s) (.slice A n c) (.slice B m d) := by have h_ := Sq.new (w) (.bool s) (.slice A n c) (.slice B m d); exact h_
    have F1 := (Below.refl w.heap.size w).alloc (Nat.le_refl _) (EQ s A n c B m d)
    have ba_2 := ba_1.alloc (EQ s' A' n' c' B' m' d')
    have bb_2 : Sq (((w).alloc (EQ s A n c B m d)).alloc (EQ s' A' n' c' B' m' d')) (w.heap.size + 1) (.bool s') (.slice A' n' c') (.slice B' m' d') := by have h_ := Sq.new ((w).alloc (EQ s A n c B m d)) (.bool s') (.slice A' n' c') (.slice B' m' d'); simp only [World.size_alloc] at h_; exact h_
    have F2 := F1.alloc F1.size (EQ s' A' n' c' B' m' d')
    have ba_3 := ba_2.alloc (EQ s'' A'' n'' c'' B'' m'' d'')
    have bb_3 := bb_2.alloc (EQ s'' A'' n'' c'' B'' m'' d'')
    have bc_3 : Sq ((((w).alloc (EQ s A n c B m d)).alloc (EQ s' A' n' c' B' m' d')).alloc (EQ s'' A'' n'' c'' B'' m'' d'')) (w.heap.size + 2) (.bool s'') (.slice A'' n'' c'') (.slice B'' m'' d'') := by have h_ := Sq.new (((w).alloc (EQ s A n c B m d)).alloc (EQ s' A' n' c' B' m' d')) (.bool s'') (.slice A'' n'' c'') (.slice B'' m'' d''); simp only [World.size_alloc] at h_; exact h_
    have F3 := F2.alloc F2.size (EQ s'' A'' n'' c'' B'' m'' d'')
    go_enter Try.func5, Try.ntmps5
    go_wp2_with fail
    refine (awake_q _).mono ?_
    rintro e w4 ⟨rfl, b4⟩
    have ba_4 := ba_3.below b4 ba_3.lt
    have bb_4 := bb_3.below b4 bb_3.lt
    have bc_4 := bc_3.below b4 bc_3.lt
    have F4 := below_then F3 (Nat.le_refl _) b4
    have ba_u4 := ba_4.cell0
    have ba_v4 := ba_4.cell1
    have ba_w4 := ba_4.cell2
    have bb_u4 := bb_4.cell0
    have bb_v4 := bb_4.cell1
    have bb_w4 := bb_4.cell2
    have bc_u4 := bc_4.cell0
    have bc_v4 := bc_4.cell1
    have bc_w4 := bc_4.cell2
    go_wp2_with fail
    refine (few_q _ _ _ _ _ _ _ _ _ hf1.out).mono ?_
    rintro e w5 ⟨rfl, b5⟩
    have ba_5 := ba_4.below b5 ba_4.lt
    have bb_5 := bb_4.below b5 bb_4.lt
    have bc_5 := bc_4.below b5 bc_4.lt
    have F5 := below_then F4 (Nat.le_refl _) b5
    have ba_u5 := ba_5.cell0
    have ba_v5 := ba_5.cell1
    have ba_w5 := ba_5.cell2
    have bb_u5 := bb_5.cell0
    have bb_v5 := bb_5.cell1
    have bb_w5 := bb_5.cell2
    have bc_u5 := bc_5.cell0
    have bc_v5 := bc_5.cell1
    have bc_w5 := bc_5.cell2
    go_wp2
    go_ret
    exact ⟨rfl, F5⟩
set_option maxHeartbeats 4000000 in
theorem ladd (s s' s'' : Bool) (A A' A'' : Option Addr) (n c n' c' n'' c'' : Nat) (B B' B'' : Option Addr) (m d m' d' m'' d'' : Nat) (x y z : Rat) (w : World) (ha : Iq w s A n c B m d x) (hb : Iq w s' A' n' c' B' m' d' y) (hc : Iq w s'' A'' n'' c'' B'' m'' d'' z) (hn : (n ≤ 3 ∧ m ≤ 3) ∧ (n' ≤ 3 ∧ m' ≤ 3) ∧ (n'' ≤ 3 ∧ m'' ≤ 3)) :
    Calls Try.prog 5 #[.agg #[.bool s, .slice A n c, .slice B m d], .agg #[.bool s', .slice A' n' c', .slice B' m' d'], .agg #[.bool s'', .slice A'' n'' c'', .slice B'' m'' d'']] w fun e w' => e = .returned (.bool true) ∧ Below w.heap.size w w' := by
  have hf1 := hide (decide_eq_true hn.1)
  have hf2 := hide (decide_eq_true hn.2.1)
  have hf3 := hide (decide_eq_true hn.2.2)
  have sx : Qs 3 x := ha.size hn.1.1 hn.1.2 (by omega)
  have sy : Qs 3 y := hb.size hn.2.1.1 hn.2.1.2 (by omega)
  have sz3 : Qs 3 z := hc.size hn.2.2.1 hn.2.2.2 (by omega)
  have la : n ≤ 4000 ∧ m ≤ 4000 := by omega
  have lb : n' ≤ 4000 ∧ m' ≤ 4000 := by omega
  have lc : n'' ≤ 4000 ∧ m'' ≤ 4000 := by omega
  have la6 : n ≤ 16384 ∧ m ≤ 16384 := by omega
  have lb6 : n' ≤ 16384 ∧ m' ≤ 16384 := by omega
  have lc6 : n'' ≤ 16384 ∧ m'' ≤ 16384 := by omega
  clear hn
  have s1 : Qs 7 (x + y) := size_add sx sy
  have s2 : Qs 7 (x - y) := size_sub sx sy
  have s3 : Qs 11 (x + y + z) := size_add s1 sz3
  have s4 : Qs 7 (y + z) := size_add sy sz3
  have E1 := hide (Rat.add_comm y x)
  have E2 := hide (Rat.add_assoc x y z).symm
  have E3 := hide (show x + y - y = x from Rat.add_sub_cancel)
  have ha_1 := ha.alloc (EQ s A n c B m d)
  have hb_1 := hb.alloc (EQ s A n c B m d)
  have hc_1 := hc.alloc (EQ s A n c B m d)
  have ba_1 : Sq ((w).alloc (EQ s A n c B m d)) (w.heap.size) (.bool s) (.slice A n c) (.slice B m d) := by have h_ := Sq.new (w) (.bool s) (.slice A n c) (.slice B m d); exact h_
  have F1 := (Below.refl w.heap.size w).alloc (Nat.le_refl _) (EQ s A n c B m d)
  have ha_2 := ha_1.alloc (EQ s' A' n' c' B' m' d')
  have hb_2 := hb_1.alloc (EQ s' A' n' c' B' m' d')
  have hc_2 := hc_1.alloc (EQ s' A' n' c' B' m' d')
  have ba_2 := ba_1.alloc (EQ s' A' n' c' B' m' d')
  have bb_2 : Sq (((w).alloc (EQ s A n c B m d)).alloc (EQ s' A' n' c' B' m' d')) (w.heap.size + 1) (.bool s') (.slice A' n' c') (.slice B' m' d') := by have h_ := Sq.new ((w).alloc (EQ s A n c B m d)) (.bool s') (.slice A' n' c') (.slice B' m' d'); simp only [World.size_alloc] at h_; exact h_
  have F2 := F1.alloc F1.size (EQ s' A' n' c' B' m' d')
  have ha_3 := ha_2.alloc (EQ s'' A'' n'' c'' B'' m'' d'')
  have hb_3 := hb_2.alloc (EQ s'' A'' n'' c'' B'' m'' d'')
  have hc_3 := hc_2.alloc (EQ s'' A'' n'' c'' B'' m'' d'')
  have ba_3 := ba_2.alloc (EQ s'' A'' n'' c'' B'' m'' d'')
  have bb_3 := bb_2.alloc (EQ s'' A'' n'' c'' B'' m'' d'')
  have bc_3 : Sq ((((w).alloc (EQ s A n c B m d)).alloc (EQ s' A' n' c' B' m' d')).alloc (EQ s'' A'' n'' c'' B'' m'' d'')) (w.heap.size + 2) (.bool s'') (.slice A'' n'' c'') (.slice B'' m'' d'') := by have h_ := Sq.new (((w).alloc (EQ s A n c B m d)).alloc (EQ s' A' n' c' B' m' d')) (.bool s'') (.slice A'' n'' c'') (.slice B'' m'' d''); simp only [World.size_alloc] at h_; exact h_
  have F3 := F2.alloc F2.size (EQ s'' A'' n'' c'' B'' m'' d'')
  go_enter Try.func5, Try.ntmps5
  go_wp2_with fail
  refine (awake_q _).mono ?_
  rintro e w4 ⟨rfl, b4⟩
  have ha_4 := ha_3.below b4
  have hb_4 := hb_3.below b4
  have hc_4 := hc_3.below b4
  have ba_4 := ba_3.below b4 ba_3.lt
  have bb_4 := bb_3.below b4 bb_3.lt
  have bc_4 := bc_3.below b4 bc_3.lt
  have F4 := below_then F3 (Nat.le_refl _) b4
  have ba_u4 := ba_4.cell0
  have ba_v4 := ba_4.cell1
  have ba_w4 := ba_4.cell2
  have bb_u4 := bb_4.cell0
  have bb_v4 := bb_4.cell1
  have bb_w4 := bb_4.cell2
  have bc_u4 := bc_4.cell0
  have bc_v4 := bc_4.cell1
  have bc_w4 := bc_4.cell2
  go_wp2_with fail
  refine (few_q _ _ _ _ _ _ _ _ _ hf1.out).mono ?_
  rintro e w5 ⟨rfl, b5⟩
  have ha_5 := ha_4.below b5
  have hb_5 := hb_4.below b5
  have hc_5 := hc_4.below b5
  have ba_5 := ba_4.below b5 ba_4.lt
  have bb_5 := bb_4.below b5 bb_4.lt
  have bc_5 := bc_4.below b5 bc_4.lt
  have F5 := below_then F4 (Nat.le_refl _) b5
  have ba_u5 := ba_5.cell0
  have ba_v5 := ba_5.cell1
  have ba_w5 := ba_5.cell2
  have bb_u5 := bb_5.cell0
  have bb_v5 := bb_5.cell1
  have bb_w5 := bb_5.cell2
  have bc_u5 := bc_5.cell0
  have bc_v5 := bc_5.cell1
  have bc_w5 := bc_5.cell2
  go_wp2_with fail
  refine (few_q _ _ _ _ _ _ _ _ _ hf2.out).mono ?_
  rintro e w6 ⟨rfl, b6⟩
  have ha_6 := ha_5.below b6
  have hb_6 := hb_5.below b6
  have hc_6 := hc_5.below b6
  have ba_6 := ba_5.below b6 ba_5.lt
  have bb_6 := bb_5.below b6 bb_5.lt
  have bc_6 := bc_5.below b6 bc_5.lt
  have F6 := below_then F5 (Nat.le_refl _) b6
  have ba_u6 := ba_6.cell0
  have ba_v6 := ba_6.cell1
  have ba_w6 := ba_6.cell2
  have bb_u6 := bb_6.cell0
  have bb_v6 := bb_6.cell1
  have bb_w6 := bb_6.cell2
  have bc_u6 := bc_6.cell0
  have bc_v6 := bc_6.cell1
  have bc_w6 := bc_6.cell2
  go_wp2_with fail
  refine (few_q _ _ _ _ _ _ _ _ _ hf3.out).mono ?_
  rintro e w7 ⟨rfl, b7⟩
  have ha_7 := ha_6.below b7
  have hb_7 := hb_6.below b7
  have hc_7 := hc_6.below b7
  have ba_7 := ba_6.below b7 ba_6.lt
  have bb_7 := bb_6.below b7 bb_6.lt
  have bc_7 := bc_6.below b7 bc_6.lt
  have F7 := below_then F6 (Nat.le_refl _) b7
  have ba_u7 := ba_7.cell0
  have ba_v7 := ba_7.cell1
  have ba_w7 := ba_7.cell2
  have bb_u7 := bb_7.cell0
  have bb_v7 := bb_7.cell1
  have bb_w7 := bb_7.cell2
  have bc_u7 := bc_7.cell0
  have bc_v7 := bc_7.cell1
  have bc_w7 := bc_7.cell2
  go_wp2_with fail
  refine (add_q _ _ _ _ _ _ _ _ _ _ _ _ _ _ _ _ _ _ rfl ha_7 hb_7 la.1 la.2 lb.1 lb.2).mono ?_
  rintro e w8 ⟨s8, A8, n8, c8, B8, m8, d8, rfl, S0, b8⟩
  have ha_8 := ha_7.below b8
  have hb_8 := hb_7.below b8
  have hc_8 := hc_7.below b8
  have ba_8 := ba_7.below b8 ba_7.lt
  have bb_8 := bb_7.below b8 bb_7.lt
  have bc_8 := bc_7.below b8 bc_7.lt
  have F8 := below_then F7 (Nat.le_refl _) b8
  have ba_u8 := ba_8.cell0
  have ba_v8 := ba_8.cell1
  have ba_w8 := ba_8.cell2
  have bb_u8 := bb_8.cell0
  have bb_v8 := bb_8.cell1
  have bb_w8 := bb_8.cell2
  have bc_u8 := bc_8.cell0
  have bc_v8 := bc_8.cell1
  have bc_w8 := bc_8.cell2
  have vS0 := S0.small s1 (show 7 ≤ 4000 by omega)
  have uS0 := S0.tiny6 s1 (show 7 ≤ 16384 by omega)
  have lt_bs_ba := ba_8.lt
  have lt_bs_bb := bb_8.lt
  have lt_bs_bc := bc_8.lt
  have ha_9 := ha_8.alloc (EQ s8 A8 n8 c8 B8 m8 d8)
  have hb_9 := hb_8.alloc (EQ s8 A8 n8 c8 B8 m8 d8)
  have hc_9 := hc_8.alloc (EQ s8 A8 n8 c8 B8 m8 d8)
  have S0_9 := S0.alloc (EQ s8 A8 n8 c8 B8 m8 d8)
  have ba_9 := ba_8.alloc (EQ s8 A8 n8 c8 B8 m8 d8)
  have bb_9 := bb_8.alloc (EQ s8 A8 n8 c8 B8 m8 d8)
  have bc_9 := bc_8.alloc (EQ s8 A8 n8 c8 B8 m8 d8)
  have bs_9 : Sq ((w8).alloc (EQ s8 A8 n8 c8 B8 m8 d8)) (w8.heap.size) (.bool s8) (.slice A8 n8 c8) (.slice B8 m8 d8) := by have h_ := Sq.new (w8) (.bool s8) (.slice A8 n8 c8) (.slice B8 m8 d8); exact h_
  have F9 := F8.alloc F8.size (EQ s8 A8 n8 c8 B8 m8 d8)
  go_wp2_with fail
  have ha_10 := ha_9.drew
  have hb_10 := hb_9.drew
  have hc_10 := hc_9.drew
  have S0_10 := S0_9.drew
  have ba_10 := ba_9.drew
  have bb_10 := bb_9.drew
  have bc_10 := bc_9.drew
  have bs_10 := bs_9.drew
  have F10 := F9.drew
  go_region_held3 (fun w' => w'.cell? ⟨w.heap.size, 0, none⟩ = some (.bool s) ∧ w'.cell? ⟨w.heap.size, 1, none⟩ = some (.slice A n c) ∧ w'.cell? ⟨w.heap.size, 2, none⟩ = some (.slice B m d) ∧ w'.cell? ⟨w.heap.size + 1, 0, none⟩ = some (.bool s') ∧ w'.cell? ⟨w.heap.size + 1, 1, none⟩ = some (.slice A' n' c') ∧ w'.cell? ⟨w.heap.size + 1, 2, none⟩ = some (.slice B' m' d') ∧ w'.cell? ⟨w.heap.size + 2, 0, none⟩ = some (.bool s'') ∧ w'.cell? ⟨w.heap.size + 2, 1, none⟩ = some (.slice A'' n'' c'') ∧ w'.cell? ⟨w.heap.size + 2, 2, none⟩ = some (.slice B'' m'' d'') ∧ w'.cell? ⟨w8.heap.size, 0, none⟩ = some (.bool s8) ∧ w'.cell? ⟨w8.heap.size, 1, none⟩ = some (.slice A8 n8 c8) ∧ w'.cell? ⟨w8.heap.size, 2, none⟩ = some (.slice B8 m8 d8))
    (first
      | with_reducible exact ⟨ba_17.cell0, ba_17.cell1, ba_17.cell2, bb_17.cell0, bb_17.cell1, bb_17.cell2, bc_17.cell0, bc_17.cell1, bc_17.cell2, bs_17.cell0, bs_17.cell1, bs_17.cell2⟩
      | with_reducible exact ⟨ba_16.cell0, ba_16.cell1, ba_16.cell2, bb_16.cell0, bb_16.cell1, bb_16.cell2, bc_16.cell0, bc_16.cell1, bc_16.cell2, bs_16.cell0, bs_16.cell1, bs_16.cell2⟩
      | with_reducible exact ⟨ba_15.cell0, ba_15.cell1, ba_15.cell2, bb_15.cell0, bb_15.cell1, bb_15.cell2, bc_15.cell0, bc_15.cell1, bc_15.cell2, bs_15.cell0, bs_15.cell1, bs_15.cell2⟩
      | with_reducible exact ⟨ba_14.cell0, ba_14.cell1, ba_14.cell2, bb_14.cell0, bb_14.cell1, bb_14.cell2, bc_14.cell0, bc_14.cell1, bc_14.cell2, bs_14.cell0, bs_14.cell1, bs_14.cell2⟩
      | with_reducible exact ⟨ba_13.cell0, ba_13.cell1, ba_13.cell2, bb_13.cell0, bb_13.cell1, bb_13.cell2, bc_13.cell0, bc_13.cell1, bc_13.cell2, bs_13.cell0, bs_13.cell1, bs_13.cell2⟩
      | with_reducible exact ⟨ba_12.cell0, ba_12.cell1, ba_12.cell2, bb_12.cell0, bb_12.cell1, bb_12.cell2, bc_12.cell0, bc_12.cell1, bc_12.cell2, bs_12.cell0, bs_12.cell1, bs_12.cell2⟩
      | with_reducible exact ⟨ba_11.cell0, ba_11.cell1, ba_11.cell2, bb_11.cell0, bb_11.cell1, bb_11.cell2, bc_11.cell0, bc_11.cell1, bc_11.cell2, bs_11.cell0, bs_11.cell1, bs_11.cell2⟩
      | with_reducible exact ⟨ba_10.cell0, ba_10.cell1, ba_10.cell2, bb_10.cell0, bb_10.cell1, bb_10.cell2, bc_10.cell0, bc_10.cell1, bc_10.cell2, bs_10.cell0, bs_10.cell1, bs_10.cell2⟩
      | fail)
    (first
      | (go_at_call 34; (with_reducible refine (radd_q _ _ _ _ _ _ _ _ _ _ _ _ _ _ _ _ _ _ rfl ha_10 hb_10 la.1 la.2 lb.1 lb.2).mono ?_); rintro e w11 ⟨s11, A11, n11, c11, B11, m11, d11, rfl, k, b11⟩; have ha_11 := ha_10.below b11; have hb_11 := hb_10.below b11; have hc_11 := hc_10.below b11; have S0_11 := S0_10.below b11; have ba_11 := ba_10.below b11 ba_10.lt; have bb_11 := bb_10.below b11 bb_10.lt; have bc_11 := bc_10.below b11 bc_10.lt; have bs_11 := bs_10.below b11 bs_10.lt; have F11 := below_then F10 (Nat.le_refl _) b11; have vk := k.small s1 (show 7 ≤ 4000 by omega); have uk := k.tiny6 s1 (show 7 ≤ 16384 by omega))
      | (go_at_call 15; (with_reducible refine (same_q _ _ _ _ _ _ _ _ _ _ _ _ _ _ _ _ S0_11 k uS0.1 uS0.2).mono ?_); rintro e w12 ⟨rfl, b12⟩; have ha_12 := ha_11.below b12; have hb_12 := hb_11.below b12; have hc_12 := hc_11.below b12; have S0_12 := S0_11.below b12; have k_12 := k.below b12; have ba_12 := ba_11.below b12 ba_11.lt; have bb_12 := bb_11.below b12 bb_11.lt; have bc_12 := bc_11.below b12 bc_11.lt; have bs_12 := bs_11.below b12 bs_11.lt; have F12 := below_then F11 (Nat.le_refl _) b12)
      | (go_at_call 35; (with_reducible refine (sub_q _ _ _ _ _ _ _ _ _ _ _ _ _ _ _ _ _ _ rfl ha_12 hb_12 la.1 la.2 lb.1 lb.2).mono ?_); rintro e w13 ⟨s13, A13, n13, c13, B13, m13, d13, rfl, dd1, b13⟩; have ha_13 := ha_12.below b13; have hb_13 := hb_12.below b13; have hc_13 := hc_12.below b13; have S0_13 := S0_12.below b13; have k_13 := k_12.below b13; have ba_13 := ba_12.below b13 ba_12.lt; have bb_13 := bb_12.below b13 bb_12.lt; have bc_13 := bc_12.below b13 bc_12.lt; have bs_13 := bs_12.below b13 bs_12.lt; have F13 := below_then F12 (Nat.le_refl _) b13; have vdd1 := dd1.small s2 (show 7 ≤ 4000 by omega); have udd1 := dd1.tiny6 s2 (show 7 ≤ 16384 by omega))
      | (go_at_call 36; (with_reducible refine (rsub_q _ _ _ _ _ _ _ _ _ _ _ _ _ _ _ _ _ _ rfl ha_13 hb_13 la.1 la.2 lb.1 lb.2).mono ?_); rintro e w14 ⟨s14, A14, n14, c14, B14, m14, d14, rfl, dd2, b14⟩; have ha_14 := ha_13.below b14; have hb_14 := hb_13.below b14; have hc_14 := hc_13.below b14; have S0_14 := S0_13.below b14; have k_14 := k_13.below b14; have dd1_14 := dd1.below b14; have ba_14 := ba_13.below b14 ba_13.lt; have bb_14 := bb_13.below b14 bb_13.lt; have bc_14 := bc_13.below b14 bc_13.lt; have bs_14 := bs_13.below b14 bs_13.lt; have F14 := below_then F13 (Nat.le_refl _) b14; have vdd2 := dd2.small s2 (show 7 ≤ 4000 by omega); have udd2 := dd2.tiny6 s2 (show 7 ≤ 16384 by omega))
      | (go_at_call 15; (with_reducible refine (same_q _ _ _ _ _ _ _ _ _ _ _ _ _ _ _ _ dd1_14 dd2 udd1.1 udd1.2).mono ?_); rintro e w15 ⟨rfl, b15⟩; have ha_15 := ha_14.below b15; have hb_15 := hb_14.below b15; have hc_15 := hc_14.below b15; have S0_15 := S0_14.below b15; have k_15 := k_14.below b15; have dd1_15 := dd1_14.below b15; have dd2_15 := dd2.below b15; have ba_15 := ba_14.below b15 ba_14.lt; have bb_15 := bb_14.below b15 bb_14.lt; have bc_15 := bc_14.below b15 bc_14.lt; have bs_15 := bs_14.below b15 bs_14.lt; have F15 := below_then F14 (Nat.le_refl _) b15)
      | (go_at_call 33; (with_reducible refine (add_q _ _ _ _ _ _ _ _ _ _ _ _ _ _ _ _ _ _ E1.out hb_15 ha_15 lb.1 lb.2 la.1 la.2).mono ?_); rintro e w16 ⟨s16, A16, n16, c16, B16, m16, d16, rfl, s2_, b16⟩; have ha_16 := ha_15.below b16; have hb_16 := hb_15.below b16; have hc_16 := hc_15.below b16; have S0_16 := S0_15.below b16; have k_16 := k_15.below b16; have dd1_16 := dd1_15.below b16; have dd2_16 := dd2_15.below b16; have ba_16 := ba_15.below b16 ba_15.lt; have bb_16 := bb_15.below b16 bb_15.lt; have bc_16 := bc_15.below b16 bc_15.lt; have bs_16 := bs_15.below b16 bs_15.lt; have F16 := below_then F15 (Nat.le_refl _) b16; have vs2_ := s2_.small s1 (show 7 ≤ 4000 by omega); have us2_ := s2_.tiny6 s1 (show 7 ≤ 16384 by omega))
      | (go_at_call 15; (with_reducible refine (same_q _ _ _ _ _ _ _ _ _ _ _ _ _ _ _ _ S0_16 s2_ uS0.1 uS0.2).mono ?_); rintro e w17 ⟨rfl, b17⟩; have ha_17 := ha_16.below b17; have hb_17 := hb_16.below b17; have hc_17 := hc_16.below b17; have S0_17 := S0_16.below b17; have k_17 := k_16.below b17; have dd1_17 := dd1_16.below b17; have dd2_17 := dd2_16.below b17; have s2__17 := s2_.below b17; have ba_17 := ba_16.below b17 ba_16.lt; have bb_17 := bb_16.below b17 bb_16.lt; have bc_17 := bc_16.below b17 bc_16.lt; have bs_17 := bs_16.below b17 bs_16.lt; have F17 := below_then F16 (Nat.le_refl _) b17)
      | fail)
  have ba_u17 := ba_17.cell0
  have ba_v17 := ba_17.cell1
  have ba_w17 := ba_17.cell2
  have bb_u17 := bb_17.cell0
  have bb_v17 := bb_17.cell1
  have bb_w17 := bb_17.cell2
  have bc_u17 := bc_17.cell0
  have bc_v17 := bc_17.cell1
  have bc_w17 := bc_17.cell2
  have bs_u17 := bs_17.cell0
  have bs_v17 := bs_17.cell1
  have bs_w17 := bs_17.cell2
  go_wp2_with fail
  have ha_18 := ha_17.drew
  have hb_18 := hb_17.drew
  have hc_18 := hc_17.drew
  have S0_18 := S0_17.drew
  have ba_18 := ba_17.drew
  have bb_18 := bb_17.drew
  have bc_18 := bc_17.drew
  have bs_18 := bs_17.drew
  have F18 := F17.drew
  go_region_held3 (fun w' => w'.cell? ⟨w.heap.size, 0, none⟩ = some (.bool s) ∧ w'.cell? ⟨w.heap.size, 1, none⟩ = some (.slice A n c) ∧ w'.cell? ⟨w.heap.size, 2, none⟩ = some (.slice B m d) ∧ w'.cell? ⟨w.heap.size + 1, 0, none⟩ = some (.bool s') ∧ w'.cell? ⟨w.heap.size + 1, 1, none⟩ = some (.slice A' n' c') ∧ w'.cell? ⟨w.heap.size + 1, 2, none⟩ = some (.slice B' m' d') ∧ w'.cell? ⟨w.heap.size + 2, 0, none⟩ = some (.bool s'') ∧ w'.cell? ⟨w.heap.size + 2, 1, none⟩ = some (.slice A'' n'' c'') ∧ w'.cell? ⟨w.heap.size + 2, 2, none⟩ = some (.slice B'' m'' d'') ∧ w'.cell? ⟨w8.heap.size, 0, none⟩ = some (.bool s8) ∧ w'.cell? ⟨w8.heap.size, 1, none⟩ = some (.slice A8 n8 c8) ∧ w'.cell? ⟨w8.heap.size, 2, none⟩ = some (.slice B8 m8 d8))
    (first
      | with_reducible exact ⟨ba_25.cell0, ba_25.cell1, ba_25.cell2, bb_25.cell0, bb_25.cell1, bb_25.cell2, bc_25.cell0, bc_25.cell1, bc_25.cell2, bs_25.cell0, bs_25.cell1, bs_25.cell2⟩
      | with_reducible exact ⟨ba_24.cell0, ba_24.cell1, ba_24.cell2, bb_24.cell0, bb_24.cell1, bb_24.cell2, bc_24.cell0, bc_24.cell1, bc_24.cell2, bs_24.cell0, bs_24.cell1, bs_24.cell2⟩
      | with_reducible exact ⟨ba_23.cell0, ba_23.cell1, ba_23.cell2, bb_23.cell0, bb_23.cell1, bb_23.cell2, bc_23.cell0, bc_23.cell1, bc_23.cell2, bs_23.cell0, bs_23.cell1, bs_23.cell2⟩
      | with_reducible exact ⟨ba_22.cell0, ba_22.cell1, ba_22.cell2, bb_22.cell0, bb_22.cell1, bb_22.cell2, bc_22.cell0, bc_22.cell1, bc_22.cell2, bs_22.cell0, bs_22.cell1, bs_22.cell2⟩
      | with_reducible exact ⟨ba_21.cell0, ba_21.cell1, ba_21.cell2, bb_21.cell0, bb_21.cell1, bb_21.cell2, bc_21.cell0, bc_21.cell1, bc_21.cell2, bs_21.cell0, bs_21.cell1, bs_21.cell2⟩
      | with_reducible exact ⟨ba_20.cell0, ba_20.cell1, ba_20.cell2, bb_20.cell0, bb_20.cell1, bb_20.cell2, bc_20.cell0, bc_20.cell1, bc_20.cell2, bs_20.cell0, bs_20.cell1, bs_20.cell2⟩
      | with_reducible exact ⟨ba_19.cell0, ba_19.cell1, ba_19.cell2, bb_19.cell0, bb_19.cell1, bb_19.cell2, bc_19.cell0, bc_19.cell1, bc_19.cell2, bs_19.cell0, bs_19.cell1, bs_19.cell2⟩
      | with_reducible exact ⟨ba_18.cell0, ba_18.cell1, ba_18.cell2, bb_18.cell0, bb_18.cell1, bb_18.cell2, bc_18.cell0, bc_18.cell1, bc_18.cell2, bs_18.cell0, bs_18.cell1, bs_18.cell2⟩
      | fail)
    (first
      | (go_at_call 33; (with_reducible refine (add_q _ _ _ _ _ _ _ _ _ _ _ _ _ _ _ _ _ _ rfl S0_18.iq hc_18 vS0.1 vS0.2 lc.1 lc.2).mono ?_); rintro e w19 ⟨s19, A19, n19, c19, B19, m19, d19, rfl, t1, b19⟩; have ha_19 := ha_18.below b19; have hb_19 := hb_18.below b19; have hc_19 := hc_18.below b19; have S0_19 := S0_18.below b19; have ba_19 := ba_18.below b19 ba_18.lt; have bb_19 := bb_18.below b19 bb_18.lt; have bc_19 := bc_18.below b19 bc_18.lt; have bs_19 := bs_18.below b19 bs_18.lt; have F19 := below_then F18 (Nat.le_refl _) b19; have vt1 := t1.small s3 (show 11 ≤ 4000 by omega); have ut1 := t1.tiny6 s3 (show 11 ≤ 16384 by omega))
      | (go_at_call 33; (with_reducible refine (add_q _ _ _ _ _ _ _ _ _ _ _ _ _ _ _ _ _ _ rfl hb_19 hc_19 lb.1 lb.2 lc.1 lc.2).mono ?_); rintro e w20 ⟨s20, A20, n20, c20, B20, m20, d20, rfl, t2, b20⟩; have ha_20 := ha_19.below b20; have hb_20 := hb_19.below b20; have hc_20 := hc_19.below b20; have S0_20 := S0_19.below b20; have t1_20 := t1.below b20; have ba_20 := ba_19.below b20 ba_19.lt; have bb_20 := bb_19.below b20 bb_19.lt; have bc_20 := bc_19.below b20 bc_19.lt; have bs_20 := bs_19.below b20 bs_19.lt; have F20 := below_then F19 (Nat.le_refl _) b20; have vt2 := t2.small s4 (show 7 ≤ 4000 by omega); have ut2 := t2.tiny6 s4 (show 7 ≤ 16384 by omega))
      | (go_at_call 33; (with_reducible refine (add_q _ _ _ _ _ _ _ _ _ _ _ _ _ _ _ _ _ _ E2.out ha_20 t2.iq la.1 la.2 vt2.1 vt2.2).mono ?_); rintro e w21 ⟨s21, A21, n21, c21, B21, m21, d21, rfl, t3, b21⟩; have ha_21 := ha_20.below b21; have hb_21 := hb_20.below b21; have hc_21 := hc_20.below b21; have S0_21 := S0_20.below b21; have t1_21 := t1_20.below b21; have t2_21 := t2.below b21; have ba_21 := ba_20.below b21 ba_20.lt; have bb_21 := bb_20.below b21 bb_20.lt; have bc_21 := bc_20.below b21 bc_20.lt; have bs_21 := bs_20.below b21 bs_20.lt; have F21 := below_then F20 (Nat.le_refl _) b21; have vt3 := t3.small s3 (show 11 ≤ 4000 by omega); have ut3 := t3.tiny6 s3 (show 11 ≤ 16384 by omega))
      | (go_at_call 15; (with_reducible refine (same_q _ _ _ _ _ _ _ _ _ _ _ _ _ _ _ _ t1_21 t3 ut1.1 ut1.2).mono ?_); rintro e w22 ⟨rfl, b22⟩; have ha_22 := ha_21.below b22; have hb_22 := hb_21.below b22; have hc_22 := hc_21.below b22; have S0_22 := S0_21.below b22; have t1_22 := t1_21.below b22; have t2_22 := t2_21.below b22; have t3_22 := t3.below b22; have ba_22 := ba_21.below b22 ba_21.lt; have bb_22 := bb_21.below b22 bb_21.lt; have bc_22 := bc_21.below b22 bc_21.lt; have bs_22 := bs_21.below b22 bs_21.lt; have F22 := below_then F21 (Nat.le_refl _) b22)
      | (go_at_call 35; (with_reducible refine (sub_q _ _ _ _ _ _ _ _ _ _ _ _ _ _ _ _ _ _ E3.out S0_22.iq hb_22 vS0.1 vS0.2 lb.1 lb.2).mono ?_); rintro e w23 ⟨s23, A23, n23, c23, B23, m23, d23, rfl, t4, b23⟩; have ha_23 := ha_22.below b23; have hb_23 := hb_22.below b23; have hc_23 := hc_22.below b23; have S0_23 := S0_22.below b23; have t1_23 := t1_22.below b23; have t2_23 := t2_22.below b23; have t3_23 := t3_22.below b23; have ba_23 := ba_22.below b23 ba_22.lt; have bb_23 := bb_22.below b23 bb_22.lt; have bc_23 := bc_22.below b23 bc_22.lt; have bs_23 := bs_22.below b23 bs_22.lt; have F23 := below_then F22 (Nat.le_refl _) b23; have vt4 := t4.small sx (show 3 ≤ 4000 by omega); have ut4 := t4.tiny6 sx (show 3 ≤ 16384 by omega))
      | (go_at_call 16; (with_reducible refine (rcanon_q _ _ _ _ _ _ _ _ _ ha_23 la6.1 la6.2).mono ?_); rintro e w24 ⟨s24, A24, n24, c24, B24, m24, d24, rfl, t5, b24⟩; have ha_24 := ha_23.below b24; have hb_24 := hb_23.below b24; have hc_24 := hc_23.below b24; have S0_24 := S0_23.below b24; have t1_24 := t1_23.below b24; have t2_24 := t2_23.below b24; have t3_24 := t3_23.below b24; have t4_24 := t4.below b24; have ba_24 := ba_23.below b24 ba_23.lt; have bb_24 := bb_23.below b24 bb_23.lt; have bc_24 := bc_23.below b24 bc_23.lt; have bs_24 := bs_23.below b24 bs_23.lt; have F24 := below_then F23 (Nat.le_refl _) b24)
      | (go_at_call 15; (with_reducible refine (same_q _ _ _ _ _ _ _ _ _ _ _ _ _ _ _ _ t4_24 t5 ut4.1 ut4.2).mono ?_); rintro e w25 ⟨rfl, b25⟩; have ha_25 := ha_24.below b25; have hb_25 := hb_24.below b25; have hc_25 := hc_24.below b25; have S0_25 := S0_24.below b25; have t1_25 := t1_24.below b25; have t2_25 := t2_24.below b25; have t3_25 := t3_24.below b25; have t4_25 := t4_24.below b25; have t5_25 := t5.below b25; have ba_25 := ba_24.below b25 ba_24.lt; have bb_25 := bb_24.below b25 bb_24.lt; have bc_25 := bc_24.below b25 bc_24.lt; have bs_25 := bs_24.below b25 bs_24.lt; have F25 := below_then F24 (Nat.le_refl _) b25)
      | fail)
  have ba_u25 := ba_25.cell0
  have ba_v25 := ba_25.cell1
  have ba_w25 := ba_25.cell2
  have bb_u25 := bb_25.cell0
  have bb_v25 := bb_25.cell1
  have bb_w25 := bb_25.cell2
  have bc_u25 := bc_25.cell0
  have bc_v25 := bc_25.cell1
  have bc_w25 := bc_25.cell2
  have bs_u25 := bs_25.cell0
  have bs_v25 := bs_25.cell1
  have bs_w25 := bs_25.cell2
  go_wp2
  go_ret
  exact ⟨rfl, F25⟩
end Go.Proofs.Ytabgniijlofapaa
