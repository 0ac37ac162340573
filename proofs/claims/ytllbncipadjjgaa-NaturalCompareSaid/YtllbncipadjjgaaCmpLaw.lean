/-
  The walk of NaturalCompare.
-/
import Derived.Test.YtllbncipadjjgaaAddLaw
namespace Go.Proofs.Ytllbncipadjjgaa
open Go.RowKit
set_option linter.unusedVariables false
set_option linter.unusedSimpArgs false

theorem law_cmp_long (A B C : Option Addr) (n m l c d f : Nat) (w : World) (hn : ¬ (n ≤ 12 ∧ m ≤ 12 ∧ l ≤ 12)) :
    Calls Try.prog 4 #[.slice A n c, .slice B m d, .slice C l f] w fun e w' => e = .returned (.bool true) ∧ Below w.heap.size w w' := by
  by_cases h1 : n ≤ 12 ∧ m ≤ 12
  · have h2 : decide ((12 : Int) < (l : Int)) = true := by simp; omega
    have hd := few_calls A B n m c d
    have HF := hide (fun W => hd W true (by simp [h1]))
    clear hd hn h1
    go_enter Try.func4, Try.ntmps4
    go_wp2_with fail
    refine (awake_calls _).mono ?_
    rintro e w1 ⟨rfl, b1⟩
    go_wp2_with fail
    refine (unhide HF _).mono ?_
    rintro e w' ⟨rfl, rfl⟩
    go_wp2
    go_ret
    exact ⟨rfl, b1⟩
  · have hd := few_calls A B n m c d
    have HF := hide (fun W => hd W false (by simpa using h1))
    clear hd hn h1
    go_enter Try.func4, Try.ntmps4
    go_wp2_with fail
    refine (awake_calls _).mono ?_
    rintro e w1 ⟨rfl, b1⟩
    go_wp2_with fail
    refine (unhide HF _).mono ?_
    rintro e w' ⟨rfl, rfl⟩
    go_wp2
    go_ret
    exact ⟨rfl, b1⟩
theorem sg_neg (a b : Nat) : sg b a = - sg a b := by
  rcases Nat.lt_trichotomy a b with h | h | h
  · rw [sg_lt h, sg_gt h]; rfl
  · rw [sg_eq h, sg_eq h.symm]; rfl
  · rw [sg_gt h, sg_lt h]
theorem sg_bound (a b : Nat) : -1 ≤ sg a b ∧ sg a b ≤ 1 := by unfold sg; split <;> (try split) <;> omega
theorem sg_le {a b : Nat} : sg a b ≤ 0 ↔ a ≤ b := by unfold sg; split <;> (try split) <;> omega
theorem sg_add (a b c : Nat) : sg (a + c) (b + c) = sg a b := by
  unfold sg
  split <;> split <;> (try split) <;> (try split) <;> omega
theorem rcmp_b (A B : Option Addr) (n m c d : Nat) (xs ys : List Nat) (w : World) (r : Int) (h : Rd w A n c xs) (h2 : Rd w B m d ys) (hn : n ≤ 1048576) (hm : m ≤ 1048576) (hr : sg (val xs) (val ys) = r) :
    Calls Try.prog 27 #[.slice A n c, .slice B m d] w fun e w' => e = .returned (.int .i64 r) ∧ w = w' := rcmp_calls A B n m c d xs ys w r h h2 hn hm hr
set_option maxHeartbeats 1000000 in
theorem law_cmp_both (A B C : Option Addr) (n m l c d f : Nat) (xs ys zs : List Nat) (w : World) (h : Rd w A n c xs) (k : Rd w B m d ys) (j : Rd w C l f zs) (hn : n ≤ 12) (hm : m ≤ 12) (hl : l ≤ 12) (hc : sg (val xs) (val ys) ≤ 0 ∧ sg (val ys) (val zs) ≤ 0) :
    Calls Try.prog 4 #[.slice A n c, .slice B m d, .slice C l f] w fun e w' => e = .returned (.bool true) ∧ Below w.heap.size w w' := by
  have HF := hide (fun W => few_calls A B n m c d W true (by simp; omega))
  have h2 : decide ((12 : Int) < (l : Int)) = false := by simp; omega
  have lx := rd_lt h hn
  have ly := rd_lt k hm
  have lz := rd_lt j hl
  have l1 : (dg (val xs + val zs)).length ≤ 13 := dg_le (add_pw lx lz)
  have l2 : (dg (val ys + val zs)).length ≤ 13 := dg_le (add_pw ly lz)
  have hbx := sg_bound (val xs) (val ys)
  have hby := sg_bound (val ys) (val zs)
  have hsx := sg_neg (val xs) (val ys)
  have hsx' := sg_add (val xs) (val ys) (val zs)
  have hlz : sg (val xs) (val ys) ≤ 0 → sg (val ys) (val zs) ≤ 0 → sg (val xs) (val zs) ≤ 0 := by
    intro a b
    rw [sg_le] at a b ⊢
    omega
  obtain ⟨x, hx⟩ : ∃ x, sg (val xs) (val ys) = x := ⟨_, rfl⟩
  obtain ⟨y, hy⟩ : ∃ y, sg (val ys) (val zs) = y := ⟨_, rfl⟩
  obtain ⟨z, hz⟩ : ∃ z, sg (val xs) (val zs) = z := ⟨_, rfl⟩
  obtain ⟨x', hx'⟩ : ∃ x', sg (val ys) (val xs) = x' := ⟨_, rfl⟩
  rw [hx, hy, hz] at hlz
  rw [hx] at hbx hsx hsx' hc
  rw [hx'] at hsx
  rw [hy] at hby hc
  have hb1 : -1 ≤ x' ∧ x' ≤ 1 := by omega
  have e1 : (x != -x') = false := by rw [bne_eq_false_iff_eq]; omega
  have HS := hide (show sg (val (dg (val xs + val zs))) (val (dg (val ys + val zs))) = x by rw [val_dg, val_dg]; exact hsx')
  have HX := hide hx
  have HY := hide hy
  have HZ := hide hz
  have HX' := hide hx'
  have b1 := hbx.1
  have b2 := hbx.2
  have b3 := hb1.1
  have b4 := hb1.2
  have b5 := hby.1
  have b6 := hby.2
  have d1 : decide (x ≤ 0) = true := by simp; omega
  have d2 : decide (y ≤ 0) = true := by simp; omega
  have hz0 := hlz hc.1 hc.2
  have d3 : decide ((0 : Int) < z) = false := by simp; omega
  clear lx ly lz hx hy hz hx' hsx hsx' hbx hby hb1 hlz hc
  go_enter Try.func4, Try.ntmps4
  go_wp2_with fail
  refine (awake_calls _).mono ?_
  rintro e w1 ⟨rfl, b1⟩
  have h_1 := h.below b1
  have k_1 := k.below b1
  have j_1 := j.below b1
  have B1 := b1
  clear b1
  go_wp2_with fail
  refine (unhide HF _).mono ?_
  rintro e w' ⟨rfl, rfl⟩
  go_wp2_with fail
  refine (cmp_b _ _ _ _ _ _ _ _ _ x h_1 k_1 (by omega) (by omega) HX.out).mono ?_
  rintro e w3 ⟨rfl, b3⟩
  have h_3 := h_1.below b3
  have k_3 := k_1.below b3
  have j_3 := j_1.below b3
  have B3 := below_then B1 (Nat.le_refl _) b3
  clear h_1 k_1 j_1 B1 b3
  go_wp2_with fail
  refine (cmp_b _ _ _ _ _ _ _ _ _ y k_3 j_3 (by omega) (by omega) HY.out).mono ?_
  rintro e w4 ⟨rfl, b4⟩
  have h_4 := h_3.below b4
  have k_4 := k_3.below b4
  have j_4 := j_3.below b4
  have B4 := below_then B3 (Nat.le_refl _) b4
  clear h_3 k_3 j_3 B3 b4
  go_wp2_with fail
  refine (rcmp_b _ _ _ _ _ _ _ _ _ x h_4 k_4 (by omega) (by omega) HX.out).mono ?_
  rintro e w' ⟨rfl, rfl⟩
  go_wp2_with fail
  refine (cmp_b _ _ _ _ _ _ _ _ _ x' k_4 h_4 (by omega) (by omega) HX'.out).mono ?_
  rintro e w6 ⟨rfl, b6⟩
  have h_6 := h_4.below b6
  have k_6 := k_4.below b6
  have j_6 := j_4.below b6
  have B6 := below_then B4 (Nat.le_refl _) b6
  clear h_4 k_4 j_4 B4 b6
  go_wp2_with fail
  refine (cmp_b _ _ _ _ _ _ _ _ _ 0 h_6 h_6 (by omega) (by omega) (sg_eq rfl)).mono ?_
  rintro e w7 ⟨rfl, b7⟩
  have h_7 := h_6.below b7
  have k_7 := k_6.below b7
  have j_7 := j_6.below b7
  have B7 := below_then B6 (Nat.le_refl _) b7
  clear h_6 k_6 j_6 B6 b7
  go_wp2_with fail
  refine (cmp_b _ _ _ _ _ _ _ _ _ z h_7 j_7 (by omega) (by omega) HZ.out).mono ?_
  rintro e w8 ⟨rfl, b8⟩
  have h_8 := h_7.below b8
  have k_8 := k_7.below b8
  have j_8 := j_7.below b8
  have B8 := below_then B7 (Nat.le_refl _) b8
  clear h_7 k_7 j_7 B7 b8
  go_wp2_with fail
  refine (add_at _ _ _ _ _ _ _ _ _ (val xs) (val zs) (val xs + val zs) rfl rfl rfl h_8 j_8 (by omega) (by omega)).mono ?_
  rintro e w9 ⟨A9, c9, rfl, r, b9⟩
  have h_9 := h_8.below b9
  have k_9 := k_8.below b9
  have j_9 := j_8.below b9
  have B9 := below_then B8 (Nat.le_refl _) b9
  clear h_8 k_8 j_8 B8 b9
  go_wp2_with fail
  refine (add_at _ _ _ _ _ _ _ _ _ (val ys) (val zs) (val ys + val zs) rfl rfl rfl k_9 j_9 (by omega) (by omega)).mono ?_
  rintro e w10 ⟨A10, c10, rfl, s, b10⟩
  have h_10 := h_9.below b10
  have k_10 := k_9.below b10
  have j_10 := j_9.below b10
  have r_10 := r.below b10
  have B10 := below_then B9 (Nat.le_refl _) b10
  clear h_9 k_9 j_9 B9 b10
  go_wp2_with fail
  refine (cmp_b _ _ _ _ _ _ _ _ _ x r_10 s (by omega) (by omega) HS.out).mono ?_
  rintro e w11 ⟨rfl, b11⟩
  have h_11 := h_10.below b11
  have k_11 := k_10.below b11
  have j_11 := j_10.below b11
  have r_11 := r_10.below b11
  have s_11 := s.below b11
  have B11 := below_then B10 (Nat.le_refl _) b11
  clear h_10 k_10 j_10 r_10 B10 b11
  go_wp2
  go_ret
  exact ⟨rfl, B11⟩
set_option maxHeartbeats 1000000 in
theorem law_cmp_one (A B C : Option Addr) (n m l c d f : Nat) (xs ys zs : List Nat) (w : World) (h : Rd w A n c xs) (k : Rd w B m d ys) (j : Rd w C l f zs) (hn : n ≤ 12) (hm : m ≤ 12) (hl : l ≤ 12) (hc : sg (val xs) (val ys) ≤ 0 ∧ 0 < sg (val ys) (val zs)) :
    Calls Try.prog 4 #[.slice A n c, .slice B m d, .slice C l f] w fun e w' => e = .returned (.bool true) ∧ Below w.heap.size w w' := by
  have HF := hide (fun W => few_calls A B n m c d W true (by simp; omega))
  have h2 : decide ((12 : Int) < (l : Int)) = false := by simp; omega
  have lx := rd_lt h hn
  have ly := rd_lt k hm
  have lz := rd_lt j hl
  have l1 : (dg (val xs + val zs)).length ≤ 13 := dg_le (add_pw lx lz)
  have l2 : (dg (val ys + val zs)).length ≤ 13 := dg_le (add_pw ly lz)
  have hbx := sg_bound (val xs) (val ys)
  have hby := sg_bound (val ys) (val zs)
  have hsx := sg_neg (val xs) (val ys)
  have hsx' := sg_add (val xs) (val ys) (val zs)
  have hlz : sg (val xs) (val ys) ≤ 0 → sg (val ys) (val zs) ≤ 0 → sg (val xs) (val zs) ≤ 0 := by
    intro a b
    rw [sg_le] at a b ⊢
    omega
  obtain ⟨x, hx⟩ : ∃ x, sg (val xs) (val ys) = x := ⟨_, rfl⟩
  obtain ⟨y, hy⟩ : ∃ y, sg (val ys) (val zs) = y := ⟨_, rfl⟩
  obtain ⟨z, hz⟩ : ∃ z, sg (val xs) (val zs) = z := ⟨_, rfl⟩
  obtain ⟨x', hx'⟩ : ∃ x', sg (val ys) (val xs) = x' := ⟨_, rfl⟩
  rw [hx, hy, hz] at hlz
  rw [hx] at hbx hsx hsx' hc
  rw [hx'] at hsx
  rw [hy] at hby hc
  have hb1 : -1 ≤ x' ∧ x' ≤ 1 := by omega
  have e1 : (x != -x') = false := by rw [bne_eq_false_iff_eq]; omega
  have HS := hide (show sg (val (dg (val xs + val zs))) (val (dg (val ys + val zs))) = x by rw [val_dg, val_dg]; exact hsx')
  have HX := hide hx
  have HY := hide hy
  have HZ := hide hz
  have HX' := hide hx'
  have b1 := hbx.1
  have b2 := hbx.2
  have b3 := hb1.1
  have b4 := hb1.2
  have b5 := hby.1
  have b6 := hby.2
  have d1 : decide (x ≤ 0) = true := by simp; omega
  have d2 : decide (y ≤ 0) = false := by simp; omega
  clear lx ly lz hx hy hz hx' hsx hsx' hbx hby hb1 hlz hc
  go_enter Try.func4, Try.ntmps4
  go_wp2_with fail
  refine (awake_calls _).mono ?_
  rintro e w1 ⟨rfl, b1⟩
  have h_1 := h.below b1
  have k_1 := k.below b1
  have j_1 := j.below b1
  have B1 := b1
  clear b1
  go_wp2_with fail
  refine (unhide HF _).mono ?_
  rintro e w' ⟨rfl, rfl⟩
  go_wp2_with fail
  refine (cmp_b _ _ _ _ _ _ _ _ _ x h_1 k_1 (by omega) (by omega) HX.out).mono ?_
  rintro e w3 ⟨rfl, b3⟩
  have h_3 := h_1.below b3
  have k_3 := k_1.below b3
  have j_3 := j_1.below b3
  have B3 := below_then B1 (Nat.le_refl _) b3
  clear h_1 k_1 j_1 B1 b3
  go_wp2_with fail
  refine (cmp_b _ _ _ _ _ _ _ _ _ y k_3 j_3 (by omega) (by omega) HY.out).mono ?_
  rintro e w4 ⟨rfl, b4⟩
  have h_4 := h_3.below b4
  have k_4 := k_3.below b4
  have j_4 := j_3.below b4
  have B4 := below_then B3 (Nat.le_refl _) b4
  clear h_3 k_3 j_3 B3 b4
  go_wp2_with fail
  refine (rcmp_b _ _ _ _ _ _ _ _ _ x h_4 k_4 (by omega) (by omega) HX.out).mono ?_
  rintro e w' ⟨rfl, rfl⟩
  go_wp2_with fail
  refine (cmp_b _ _ _ _ _ _ _ _ _ x' k_4 h_4 (by omega) (by omega) HX'.out).mono ?_
  rintro e w6 ⟨rfl, b6⟩
  have h_6 := h_4.below b6
  have k_6 := k_4.below b6
  have j_6 := j_4.below b6
  have B6 := below_then B4 (Nat.le_refl _) b6
  clear h_4 k_4 j_4 B4 b6
  go_wp2_with fail
  refine (cmp_b _ _ _ _ _ _ _ _ _ 0 h_6 h_6 (by omega) (by omega) (sg_eq rfl)).mono ?_
  rintro e w7 ⟨rfl, b7⟩
  have h_7 := h_6.below b7
  have k_7 := k_6.below b7
  have j_7 := j_6.below b7
  have B7 := below_then B6 (Nat.le_refl _) b7
  clear h_6 k_6 j_6 B6 b7
  go_wp2_with fail
  refine (add_at _ _ _ _ _ _ _ _ _ (val xs) (val zs) (val xs + val zs) rfl rfl rfl h_7 j_7 (by omega) (by omega)).mono ?_
  rintro e w8 ⟨A8, c8, rfl, r, b8⟩
  have h_8 := h_7.below b8
  have k_8 := k_7.below b8
  have j_8 := j_7.below b8
  have B8 := below_then B7 (Nat.le_refl _) b8
  clear h_7 k_7 j_7 B7 b8
  go_wp2_with fail
  refine (add_at _ _ _ _ _ _ _ _ _ (val ys) (val zs) (val ys + val zs) rfl rfl rfl k_8 j_8 (by omega) (by omega)).mono ?_
  rintro e w9 ⟨A9, c9, rfl, s, b9⟩
  have h_9 := h_8.below b9
  have k_9 := k_8.below b9
  have j_9 := j_8.below b9
  have r_9 := r.below b9
  have B9 := below_then B8 (Nat.le_refl _) b9
  clear h_8 k_8 j_8 B8 b9
  go_wp2_with fail
  refine (cmp_b _ _ _ _ _ _ _ _ _ x r_9 s (by omega) (by omega) HS.out).mono ?_
  rintro e w10 ⟨rfl, b10⟩
  have h_10 := h_9.below b10
  have k_10 := k_9.below b10
  have j_10 := j_9.below b10
  have r_10 := r_9.below b10
  have s_10 := s.below b10
  have B10 := below_then B9 (Nat.le_refl _) b10
  clear h_9 k_9 j_9 r_9 B9 b10
  go_wp2
  go_ret
  exact ⟨rfl, B10⟩
set_option maxHeartbeats 1000000 in
theorem law_cmp_none (A B C : Option Addr) (n m l c d f : Nat) (xs ys zs : List Nat) (w : World) (h : Rd w A n c xs) (k : Rd w B m d ys) (j : Rd w C l f zs) (hn : n ≤ 12) (hm : m ≤ 12) (hl : l ≤ 12) (hc : 0 < sg (val xs) (val ys)) :
    Calls Try.prog 4 #[.slice A n c, .slice B m d, .slice C l f] w fun e w' => e = .returned (.bool true) ∧ Below w.heap.size w w' := by
  have HF := hide (fun W => few_calls A B n m c d W true (by simp; omega))
  have h2 : decide ((12 : Int) < (l : Int)) = false := by simp; omega
  have lx := rd_lt h hn
  have ly := rd_lt k hm
  have lz := rd_lt j hl
  have l1 : (dg (val xs + val zs)).length ≤ 13 := dg_le (add_pw lx lz)
  have l2 : (dg (val ys + val zs)).length ≤ 13 := dg_le (add_pw ly lz)
  have hbx := sg_bound (val xs) (val ys)
  have hby := sg_bound (val ys) (val zs)
  have hsx := sg_neg (val xs) (val ys)
  have hsx' := sg_add (val xs) (val ys) (val zs)
  have hlz : sg (val xs) (val ys) ≤ 0 → sg (val ys) (val zs) ≤ 0 → sg (val xs) (val zs) ≤ 0 := by
    intro a b
    rw [sg_le] at a b ⊢
    omega
  obtain ⟨x, hx⟩ : ∃ x, sg (val xs) (val ys) = x := ⟨_, rfl⟩
  obtain ⟨y, hy⟩ : ∃ y, sg (val ys) (val zs) = y := ⟨_, rfl⟩
  obtain ⟨z, hz⟩ : ∃ z, sg (val xs) (val zs) = z := ⟨_, rfl⟩
  obtain ⟨x', hx'⟩ : ∃ x', sg (val ys) (val xs) = x' := ⟨_, rfl⟩
  rw [hx, hy, hz] at hlz
  rw [hx] at hbx hsx hsx' hc
  rw [hx'] at hsx
  rw [hy] at hby
  have hb1 : -1 ≤ x' ∧ x' ≤ 1 := by omega
  have e1 : (x != -x') = false := by rw [bne_eq_false_iff_eq]; omega
  have HS := hide (show sg (val (dg (val xs + val zs))) (val (dg (val ys + val zs))) = x by rw [val_dg, val_dg]; exact hsx')
  have HX := hide hx
  have HY := hide hy
  have HZ := hide hz
  have HX' := hide hx'
  have b1 := hbx.1
  have b2 := hbx.2
  have b3 := hb1.1
  have b4 := hb1.2
  have b5 := hby.1
  have b6 := hby.2
  have d1 : decide (x ≤ 0) = false := by simp; omega
  clear lx ly lz hx hy hz hx' hsx hsx' hbx hby hb1 hlz hc
  go_enter Try.func4, Try.ntmps4
  go_wp2_with fail
  refine (awake_calls _).mono ?_
  rintro e w1 ⟨rfl, b1⟩
  have h_1 := h.below b1
  have k_1 := k.below b1
  have j_1 := j.below b1
  have B1 := b1
  clear b1
  go_wp2_with fail
  refine (unhide HF _).mono ?_
  rintro e w' ⟨rfl, rfl⟩
  go_wp2_with fail
  refine (cmp_b _ _ _ _ _ _ _ _ _ x h_1 k_1 (by omega) (by omega) HX.out).mono ?_
  rintro e w3 ⟨rfl, b3⟩
  have h_3 := h_1.below b3
  have k_3 := k_1.below b3
  have j_3 := j_1.below b3
  have B3 := below_then B1 (Nat.le_refl _) b3
  clear h_1 k_1 j_1 B1 b3
  go_wp2_with fail
  refine (cmp_b _ _ _ _ _ _ _ _ _ y k_3 j_3 (by omega) (by omega) HY.out).mono ?_
  rintro e w4 ⟨rfl, b4⟩
  have h_4 := h_3.below b4
  have k_4 := k_3.below b4
  have j_4 := j_3.below b4
  have B4 := below_then B3 (Nat.le_refl _) b4
  clear h_3 k_3 j_3 B3 b4
  go_wp2_with fail
  refine (rcmp_b _ _ _ _ _ _ _ _ _ x h_4 k_4 (by omega) (by omega) HX.out).mono ?_
  rintro e w' ⟨rfl, rfl⟩
  go_wp2_with fail
  refine (cmp_b _ _ _ _ _ _ _ _ _ x' k_4 h_4 (by omega) (by omega) HX'.out).mono ?_
  rintro e w6 ⟨rfl, b6⟩
  have h_6 := h_4.below b6
  have k_6 := k_4.below b6
  have j_6 := j_4.below b6
  have B6 := below_then B4 (Nat.le_refl _) b6
  clear h_4 k_4 j_4 B4 b6
  go_wp2_with fail
  refine (cmp_b _ _ _ _ _ _ _ _ _ 0 h_6 h_6 (by omega) (by omega) (sg_eq rfl)).mono ?_
  rintro e w7 ⟨rfl, b7⟩
  have h_7 := h_6.below b7
  have k_7 := k_6.below b7
  have j_7 := j_6.below b7
  have B7 := below_then B6 (Nat.le_refl _) b7
  clear h_6 k_6 j_6 B6 b7
  go_wp2_with fail
  refine (add_at _ _ _ _ _ _ _ _ _ (val xs) (val zs) (val xs + val zs) rfl rfl rfl h_7 j_7 (by omega) (by omega)).mono ?_
  rintro e w8 ⟨A8, c8, rfl, r, b8⟩
  have h_8 := h_7.below b8
  have k_8 := k_7.below b8
  have j_8 := j_7.below b8
  have B8 := below_then B7 (Nat.le_refl _) b8
  clear h_7 k_7 j_7 B7 b8
  go_wp2_with fail
  refine (add_at _ _ _ _ _ _ _ _ _ (val ys) (val zs) (val ys + val zs) rfl rfl rfl k_8 j_8 (by omega) (by omega)).mono ?_
  rintro e w9 ⟨A9, c9, rfl, s, b9⟩
  have h_9 := h_8.below b9
  have k_9 := k_8.below b9
  have j_9 := j_8.below b9
  have r_9 := r.below b9
  have B9 := below_then B8 (Nat.le_refl _) b9
  clear h_8 k_8 j_8 B8 b9
  go_wp2_with fail
  refine (cmp_b _ _ _ _ _ _ _ _ _ x r_9 s (by omega) (by omega) HS.out).mono ?_
  rintro e w10 ⟨rfl, b10⟩
  have h_10 := h_9.below b10
  have k_10 := k_9.below b10
  have j_10 := j_9.below b10
  have r_10 := r_9.below b10
  have s_10 := s.below b10
  have B10 := below_then B9 (Nat.le_refl _) b10
  clear h_9 k_9 j_9 r_9 B9 b10
  go_wp2
  go_ret
  exact ⟨rfl, B10⟩
theorem law_cmp (A B C : Option Addr) (n m l c d f : Nat) (xs ys zs : List Nat) (w : World) (h : Rd w A n c xs) (k : Rd w B m d ys) (j : Rd w C l f zs) (hn : n ≤ 12) (hm : m ≤ 12) (hl : l ≤ 12) :
    Calls Try.prog 4 #[.slice A n c, .slice B m d, .slice C l f] w fun e w' => e = .returned (.bool true) ∧ Below w.heap.size w w' := by
  by_cases h1 : sg (val xs) (val ys) ≤ 0
  · by_cases h2 : sg (val ys) (val zs) ≤ 0
    · exact law_cmp_both A B C n m l c d f xs ys zs w h k j hn hm hl ⟨h1, h2⟩
    · exact law_cmp_one A B C n m l c d f xs ys zs w h k j hn hm hl ⟨h1, by omega⟩
  · exact law_cmp_none A B C n m l c d f xs ys zs w h k j hn hm hl (by omega)
end Go.Proofs.Ytllbncipadjjgaa
