/-
  Signs of rational numbers; RationalCompare for long numbers.
-/
import Derived.Test.YtabgniijlofapaaL0
namespace Go.Proofs.Ytabgniijlofapaa
open Go.RowKit
set_option linter.unusedVariables false
set_option linter.unusedSimpArgs false

theorem Cq.tiny6 {w : World} {s : Bool} {A B : Option Addr} {n c m d k : Nat} {q : Rat} (h : Cq w s A n c B m d q) (hs : Qs k q) (hk : k ≤ 16384) : n ≤ 16384 ∧ m ≤ 16384 := ⟨Nat.le_trans (h.ln hs.1) hk, Nat.le_trans (h.ld hs.2) hk⟩
theorem szq_neg {x : Rat} (h : x < 0) : sz x.num = -1 := by
  have := num_lt0.2 h
  unfold sz
  rw [if_neg (by omega), if_pos this]
theorem szq_pos {x : Rat} (h : 0 < x) : sz x.num = 1 := by
  have := num_pos h
  unfold sz
  rw [if_neg (by omega), if_neg (by omega)]
theorem szq_mul (p q : Rat) : sz (p * q).num = sz p.num * sz q.num := by
  by_cases hp0 : p = 0
  · rw [hp0, Rat.zero_mul]; simp [sz]
  · by_cases hq0 : q = 0
    · rw [hq0, Rat.mul_zero]; simp [sz]
    · by_cases hp : p < 0
      · have hp' : 0 < -p := by grind
        by_cases hq : q < 0
        · have hq' : 0 < -q := by grind
          have := Rat.mul_pos hp' hq'
          rw [szq_neg hp, szq_neg hq, szq_pos (by rw [Rat.neg_mul, Rat.mul_neg, Rat.neg_neg] at this; exact this)]; rfl
        · have hq' : 0 < q := by grind
          have := Rat.mul_pos hp' hq'
          rw [szq_neg hp, szq_pos hq', szq_neg (by rw [Rat.neg_mul] at this; grind)]; rfl
      · have hp' : 0 < p := by grind
        by_cases hq : q < 0
        · have hq' : 0 < -q := by grind
          have := Rat.mul_pos hp' hq'
          rw [szq_pos hp', szq_neg hq, szq_neg (by rw [Rat.mul_neg] at this; grind)]; rfl
        · have hq' : 0 < q := by grind
          rw [szq_pos hp', szq_pos hq', szq_pos (Rat.mul_pos hp' hq')]; rfl
theorem szq_tri {x y z : Rat} (h1 : sz (x - y).num ≤ 0) (h2 : sz (y - z).num ≤ 0) : ¬ 0 < sz (x - z).num := by
  have := cmp_le.2 (Rat.le_trans (cmp_le.1 h1) (cmp_le.1 h2))
  omega
theorem lcmp_long (s s' s'' : Bool) (A A' A'' : Option Addr) (n c n' c' n'' c'' : Nat) (B B' B'' : Option Addr) (m d m' d' m'' d'' : Nat) (w : World) (hn : ¬ ((n ≤ 3 ∧ m ≤ 3) ∧ (n' ≤ 3 ∧ m' ≤ 3) ∧ (n'' ≤ 3 ∧ m'' ≤ 3))) :
    Calls Try.prog 7 #[.agg #[.bool s, .slice A n c, .slice B m d], .agg #[.bool s', .slice A' n' c', .slice B' m' d'], .agg #[.bool s'', .slice A'' n'' c'', .slice B'' m'' d'']] w fun e w' => e = .returned (.bool true) ∧ Below w.heap.size w w' := by
  by_cases h1 : n ≤ 3 ∧ m ≤ 3
  · have hf1 := hide (decide_eq_true h1)
    by_cases h2 : n' ≤ 3 ∧ m' ≤ 3
    · have hf2 := hide (decide_eq_true h2)
      have hf3 := hide (decide_eq_false fun h3 => hn ⟨h1, h2, h3⟩)
      clear hn h1 h2
      have ba_1 : Sq ((w).alloc (EQ s A n c B m d)) (w.heap.size) (.bool s) (.slice A n c) (.slice B m d) := by have h_ := Sq.new (w) (.bool s) (.slice A n c) (.slice B m d); exact h_
      have F1 := (Below.refl w.heap.size w).alloc (Nat.le_refl _) (EQ s A n c B m d)
      have ba_2 := ba_1.alloc (EQ s' A' n' c' B' m' d')
      have bb_2 : Sq (((w).alloc (EQ s A n c B m d)).alloc (EQ s' A' n' c' B' m' d')) (w.heap.size + 1) (.bool s') (.slice A' n' c') (.slice B' m' d') := by have h_ := Sq.new ((w).alloc (EQ s A n c B m d)) (.bool s') (.slice A' n' c') (.slice B' m' d'); simp only [World.size_alloc] at h_; exact h_
      have F2 := F1.alloc F1.size (EQ s' A' n' c' B' m' d')
      have ba_3 := ba_2.alloc (EQ s'' A'' n'' c'' B'' m'' d'')
      have bb_3 := bb_2.alloc (EQ s'' A'' n'' c'' B'' m'' d'')
      have bc_3 : Sq ((((w).alloc (EQ s A n c B m d)).alloc (EQ s' A' n' c' B' m' d')).alloc (EQ s'' A'' n'' c'' B'' m'' d'')) (w.heap.size + 2) (.bool s'') (.slice A'' n'' c'') (.slice B'' m'' d'') := by have h_ := Sq.new (((w).alloc (EQ s A n c B m d)).alloc (EQ s' A' n' c' B' m' d')) (.bool s'') (.slice A'' n'' c'') (.slice B'' m'' d''); simp only [World.size_alloc] at h_; exact h_
      have F3 := F2.alloc F2.size (EQ s'' A'' n'' c'' B'' m'' d'')
      go_enter Try.func7, Try.ntmps7
      go_wp2_with fail
      refine (awake_q _).mono ?_
      rintro e w4 ⟨rfl, b4⟩
      have ba_4 := ba_3.below b4 ba_3.lt
      have bb_4 := bb_3.below b4 bb_3.lt
      have bc_4 := bc_3.below b4 bc_3.lt
      have F4 := below_then F3 (Nat.le_refl _) b4
      have ba_u4 := ba_4.cell0
      have ba_v4 := ba_4.cell1
      have ba_w4 := ba_4.cell2
      have bb_u4 := bb_4.cell0
      have bb_v4 := bb_4.cell1
      have bb_w4 := bb_4.cell2
      have bc_u4 := bc_4.cell0
      have bc_v4 := bc_4.cell1
      have bc_w4 := bc_4.cell2
      go_wp2_with fail
      refine (few_q _ _ _ _ _ _ _ _ _ hf1.out).mono ?_
      rintro e w5 ⟨rfl, b5⟩
      have ba_5 := ba_4.below b5 ba_4.lt
      have bb_5 := bb_4.below b5 bb_4.lt
      have bc_5 := bc_4.below b5 bc_4.lt
      have F5 := below_then F4 (Nat.le_refl _) b5
      have ba_u5 := ba_5.cell0
      have ba_v5 := ba_5.cell1
      have ba_w5 := ba_5.cell2
      have bb_u5 := bb_5.cell0
      have bb_v5 := bb_5.cell1
      have bb_w5 := bb_5.cell2
      have bc_u5 := bc_5.cell0
      have bc_v5 := bc_5.cell1
      have bc_w5 := bc_5.cell2
      go_wp2_with fail
      refine (few_q _ _ _ _ _ _ _ _ _ hf2.out).mono ?_
      rintro e w6 ⟨rfl, b6⟩
      have ba_6 := ba_5.below b6 ba_5.lt
      have bb_6 := bb_5.below b6 bb_5.lt
      have bc_6 := bc_5.below b6 bc_5.lt
      have F6 := below_then F5 (Nat.le_refl _) b6
      have ba_u6 := ba_6.cell0
      have ba_v6 := ba_6.cell1
      have ba_w6 := ba_6.cell2
      have bb_u6 := bb_6.cell0
      have bb_v6 := bb_6.cell1
      have bb_w6 := bb_6.cell2
      have bc_u6 := bc_6.cell0
      have bc_v6 := bc_6.cell1
      have bc_w6 := bc_6.cell2
      go_wp2_with fail
      refine (few_q _ _ _ _ _ _ _ _ _ hf3.out).mono ?_
      rintro e w7 ⟨rfl, b7⟩
      have ba_7 := ba_6.below b7 ba_6.lt
      have bb_7 := bb_6.below b7 bb_6.lt
      have bc_7 := bc_6.below b7 bc_6.lt
      have F7 := below_then F6 (Nat.le_refl _) b7
      have ba_u7 := ba_7.cell0
      have ba_v7 := ba_7.cell1
      have ba_w7 := ba_7.cell2
      have bb_u7 := bb_7.cell0
      have bb_v7 := bb_7.cell1
      have bb_w7 := bb_7.cell2
      have bc_u7 := bc_7.cell0
      have bc_v7 := bc_7.cell1
      have bc_w7 := bc_7.cell2
      go_wp2
      go_ret
      exact ⟨rfl, F7⟩
    · have hf2 := hide (decide_eq_false h2)
      clear hn h1 h2
      have ba_1 : Sq ((w).alloc (EQ s A n c B m d)) (w.heap.size) (.bool s) (.slice A n c) (.slice B m d) := by have h_ := Sq.new (w) (.bool s) (.slice A n c) (.slice B m d); exact h_
      have F1 := (Below.refl w.heap.size w).alloc (Nat.le_refl _) (EQ s A n c B m d)
      have ba_2 := ba_1.alloc (EQ s' A' n' c' B' m' d')
      have bb_2 : Sq (((w).alloc (EQ s A n c B m d)).alloc (EQ s' A' n' c' B' m' d')) (w.heap.size + 1) (.bool s') (.slice A' n' c') (.slice B' m' d') := by have h_ := Sq.new ((w).alloc (EQ s A n c B m d)) (.bool s') (.slice A' n' c') (.slice B' m' d'); simp only [World.size_alloc] at h_; exact h_
      have F2 := F1.alloc F1.size (EQ s' A' n' c' B' m' d')
      have ba_3 := ba_2.alloc (EQ s'' A'' n'' c'' B'' m'' d'')
      have bb_3 := bb_2.alloc (EQ s'' A'' n'' c'' B'' m'' d'')
      have bc_3 : Sq ((((w).alloc (EQ s A n c B m d)).alloc (EQ s' A' n' c' B' m' d')).alloc (EQ s'' A'' n'' c'' B'' m'' d'')) (w.heap.size + 2) (.bool s'') (.slice A'' n'' c'') (.slice B'' m'' d'') := by have h_ := Sq.new (((w).alloc (EQ s A n c B m d)).alloc (EQ s' A' n' c' B' m' d')) (.bool s'') (.slice A'' n'' c'') (.slice B'' m'' d''); simp only [World.size_alloc] at h_; exact h_
      have F3 := F2.alloc F2.size (EQ s'' A'' n'' c'' B'' m'' d'')
      go_enter Try.func7, Try.ntmps7
      go_wp2_with fail
      refine (awake_q _).mono ?_
      rintro e w4 ⟨rfl, b4⟩
      have ba_4 := ba_3.below b4 ba_3.lt
      have bb_4 := bb_3.below b4 bb_3.lt
      have bc_4 := bc_3.below b4 bc_3.lt
      have F4 := below_then F3 (Nat.le_refl _) b4
      have ba_u4 := ba_4.cell0
      have ba_v4 := ba_4.cell1
      have ba_w4 := ba_4.cell2
      have bb_u4 := bb_4.cell0
      have bb_v4 := bb_4.cell1
      have bb_w4 := bb_4.cell2
      have bc_u4 := bc_4.cell0
      have bc_v4 := bc_4.cell1
      have bc_w4 := bc_4.cell2
      go_wp2_with fail
      refine (few_q _ _ _ _ _ _ _ _ _ hf1.out).mono ?_
      rintro e w5 ⟨rfl, b5⟩
      have ba_5 := ba_4.below b5 ba_4.lt
      have bb_5 := bb_4.below b5 bb_4.lt
      have bc_5 := bc_4.below b5 bc_4.lt
      have F5 := below_then F4 (Nat.le_refl _) b5
      have ba_u5 := ba_5.cell0
      have ba_v5 := ba_5.cell1
      have ba_w5 := ba_5.cell2
      have bb_u5 := bb_5.cell0
      have bb_v5 := bb_5.cell1
      have bb_w5 := bb_5.cell2
      have bc_u5 := bc_5.cell0
      have bc_v5 := bc_5.cell1
      have bc_w5 := bc_5.cell2
      go_wp2_with fail
      refine (few_q _ _ _ _ _ _ _ _ _ hf2.out).mono ?_
      rintro e w6 ⟨rfl, b6⟩
      have ba_6 := ba_5.below b6 ba_5.lt
      have bb_6 := bb_5.below b6 bb_5.lt
      have bc_6 := bc_5.below b6 bc_5.lt
      have F6 := below_then F5 (Nat.le_refl _) b6
      have ba_u6 := ba_6.cell0
      have ba_v6 := ba_6.cell1
      have ba_w6 := ba_6.cell2
      have bb_u6 := bb_6.cell0
      have bb_v6 := bb_6.cell1
      have bb_w6 := bb_6.cell2
      have bc_u6 := bc_6.cell0
      have bc_v6 := bc_6.cell1
      have bc_w6 := bc_6.cell2
      go_wp2
      go_ret
      exact ⟨rfl, F6⟩
  · have hf1 := hide (decide_eq_false h1)
    clear hn h1
    have ba_1 : Sq ((w).alloc (EQ s A n c B m d)) (w.heap.size) (.bool s) (.slice A n c) (.slice B m d) := by have h_ := Sq.new (w) (.bool s) (.slice A n c) (.slice B m d); exact h_
    have F1 := (Below.refl w.heap.size w).alloc (Nat.le_refl _) (EQ s A n c B m d)
    have ba_2 := ba_1.alloc (EQ s' A' n' c' B' m' d')
    have bb_2 : Sq (((w).alloc (EQ s A n c B m d)).alloc (EQ s' A' n' c' B' m' d')) (w.heap.size + 1) (.bool s') (.slice A' n' c') (.slice B' m' d') := by have h_ := Sq.new ((w).alloc (EQ s A n c B m d)) (.bool s') (.slice A' n' c') (.slice B' m' d'); simp only [World.size_alloc] at h_; exact h_
    have F2 := F1.alloc F1.size (EQ s' A' n' c' B' m' d')
    have ba_3 := ba_2.alloc (EQ s'' A'' n'' c'' B'' m'' d'')
    have bb_3 := bb_2.alloc (EQ s'' A'' n'' c'' B'' m'' d'')
    have bc_3 : Sq ((((w).alloc (EQ s A n c B m d)).alloc (EQ s' A' n' c' B' m' d')).alloc (EQ s'' A'' n'' c'' B'' m'' d'')) (w.heap.size + 2) (.bool s'') (.slice A'' n'' c'') (.slice B'' m'' d'') := by have h_ := Sq.new (((w).alloc (EQ s A n c B m d)).alloc (EQ s' A' n' c' B' m' d')) (.bool s'') (.slice A'' n'' c'') (.slice B'' m'' d''); simp only [World.size_alloc] at h_; exact h_
    have F3 := F2.alloc F2.size (EQ s'' A'' n'' c'' B'' m'' d'')
    go_enter Try.func7, Try.ntmps7
    go_wp2_with fail
    refine (awake_q _).mono ?_
    rintro e w4 ⟨rfl, b4⟩
    have ba_4 := ba_3.below b4 ba_3.lt
    have bb_4 := bb_3.below b4 bb_3.lt
    have bc_4 := bc_3.below b4 bc_3.lt
    have F4 := below_then F3 (Nat.le_refl _) b4
    have ba_u4 := ba_4.cell0
    have ba_v4 := ba_4.cell1
    have ba_w4 := ba_4.cell2
    have bb_u4 := bb_4.cell0
    have bb_v4 := bb_4.cell1
    have bb_w4 := bb_4.cell2
    have bc_u4 := bc_4.cell0
    have bc_v4 := bc_4.cell1
    have bc_w4 := bc_4.cell2
    go_wp2_with fail
    refine (few_q _ _ _ _ _ _ _ _ _ hf1.out).mono ?_
    rintro e w5 ⟨rfl, b5⟩
    have ba_5 := ba_4.below b5 ba_4.lt
    have bb_5 := bb_4.below b5 bb_4.lt
    have bc_5 := bc_4.below b5 bc_4.lt
    have F5 := below_then F4 (Nat.le_refl _) b5
    have ba_u5 := ba_5.cell0
    have ba_v5 := ba_5.cell1
    have ba_w5 := ba_5.cell2
    have bb_u5 := bb_5.cell0
    have bb_v5 := bb_5.cell1
    have bb_w5 := bb_5.cell2
    have bc_u5 := bc_5.cell0
    have bc_v5 := bc_5.cell1
    have bc_w5 := bc_5.cell2
    go_wp2
    go_ret
    exact ⟨rfl, F5⟩
end Go.Proofs.Ytabgniijlofapaa
