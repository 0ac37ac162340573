/-
  A walk of stage 3.
-/
import Derived.Test.YtabgniijlofapaaL0
import Derived.Deep.DeepCutAuto
import Derived.Deep.CutBlock
namespace Go.Proofs.Ytabgniijlofapaa
open Go.RowKit
set_option linter.unusedVariables false
set_option linter.unusedSimpArgs false

theorem Cq.tiny6 {w : World} {s : Bool} {A B : Option Addr} {n c m d k : Nat} {q : Rat} (h : Cq w s A n c B m d q) (hs : Qs k q) (hk : k ≤ 16384) : n ≤ 16384 ∧ m ≤ 16384 := ⟨Nat.le_trans (h.ln hs.1) hk, Nat.le_trans (h.ld hs.2) hk⟩
theorem lfrac_at (i j a b : Int) (q : Rat) (w : World) (hi : i = a) (hj : j = b) (hq : (a : Rat) / (b : Rat) = q) (h0 : b ≠ 0) (h1 : -9223372036854775808 ≤ a ∧ a ≤ 9223372036854775807) (h2 : -9223372036854775808 ≤ b ∧ b ≤ 9223372036854775807) : Calls Try.prog 50 #[.int .i64 i, .int .i64 j] w (GQ w q) := by
  subst hi hj
  exact lfrac_q i j q w hq h0 h1 h2
theorem gt_of {p q : Rat} (h : ¬ p ≤ q) : 0 < sz (p - q).num := by
  have h1 : ¬ sz (p - q).num ≤ 0 := fun e => h (cmp_le.1 e)
  omega
theorem ngt_of {p q : Rat} (h : p ≤ q) : ¬ 0 < sz (p - q).num := by
  have h1 : sz (p - q).num ≤ 0 := cmp_le.2 h
  omega
theorem lsim_long1 (s t : Bool) (A B A' B' : Option Addr) (n c m d n' c' m' d' : Nat) (v : Nat) (w : World) (hv : v < 65536) (h1 : ¬ (n ≤ 3 ∧ m ≤ 3)) :
    Calls Try.prog 10 #[.agg #[.bool s, .slice A n c, .slice B m d], .agg #[.bool t, .slice A' n' c', .slice B' m' d'], .int .u16 (v : Int)] w fun e w' => e = .returned (.bool true) ∧ Below w.heap.size w w' := by
  have hf1 := hide (decide_eq_false h1)

  clear h1 
  have ba_1 : Sq ((w).alloc (EQ s A n c B m d)) (w.heap.size) (.bool s) (.slice A n c) (.slice B m d) := by have h_ := Sq.new (w) (.bool s) (.slice A n c) (.slice B m d); exact h_
  have F1 := (Below.refl w.heap.size w).alloc (Nat.le_refl _) (EQ s A n c B m d)
  have ba_2 := ba_1.alloc (EQ t A' n' c' B' m' d')
  have bb_2 : Sq (((w).alloc (EQ s A n c B m d)).alloc (EQ t A' n' c' B' m' d')) (w.heap.size + 1) (.bool t) (.slice A' n' c') (.slice B' m' d') := by have h_ := Sq.new ((w).alloc (EQ s A n c B m d)) (.bool t) (.slice A' n' c') (.slice B' m' d'); simp only [World.size_alloc] at h_; exact h_
  have F2 := F1.alloc F1.size (EQ t A' n' c' B' m' d')
  go_enter Try.func10, Try.ntmps10
  go_wp2_with fail
  refine (awake_q _).mono ?_
  rintro e w3 ⟨rfl, b3⟩
  have ba_3 := ba_2.below b3 ba_2.lt
  have bb_3 := bb_2.below b3 bb_2.lt
  have F3 := below_then F2 (Nat.le_refl _) b3
  have ba_u3 := ba_3.cell0
  have ba_v3 := ba_3.cell1
  have ba_w3 := ba_3.cell2
  have bb_u3 := bb_3.cell0
  have bb_v3 := bb_3.cell1
  have bb_w3 := bb_3.cell2
  go_wp2_with fail
  refine (few_q _ _ _ _ _ _ _ _ _ hf1.out).mono ?_
  rintro e w4 ⟨rfl, b4⟩
  have ba_4 := ba_3.below b4 ba_3.lt
  have bb_4 := bb_3.below b4 bb_3.lt
  have F4 := below_then F3 (Nat.le_refl _) b4
  have ba_u4 := ba_4.cell0
  have ba_v4 := ba_4.cell1
  have ba_w4 := ba_4.cell2
  have bb_u4 := bb_4.cell0
  have bb_v4 := bb_4.cell1
  have bb_w4 := bb_4.cell2
  go_wp2
  go_ret
  exact ⟨rfl, F4⟩
theorem lsim_long2 (s t : Bool) (A B A' B' : Option Addr) (n c m d n' c' m' d' : Nat) (v : Nat) (w : World) (hv : v < 65536) (h1 : (n ≤ 3 ∧ m ≤ 3)) (h2 : ¬ (n' ≤ 3 ∧ m' ≤ 3)) :
    Calls Try.prog 10 #[.agg #[.bool s, .slice A n c, .slice B m d], .agg #[.bool t, .slice A' n' c', .slice B' m' d'], .int .u16 (v : Int)] w fun e w' => e = .returned (.bool true) ∧ Below w.heap.size w w' := by
  have hf1 := hide (decide_eq_true h1)
  have hf2 := hide (decide_eq_false h2)
  clear h1 h2
  have ba_1 : Sq ((w).alloc (EQ s A n c B m d)) (w.heap.size) (.bool s) (.slice A n c) (.slice B m d) := by have h_ := Sq.new (w) (.bool s) (.slice A n c) (.slice B m d); exact h_
  have F1 := (Below.refl w.heap.size w).alloc (Nat.le_refl _) (EQ s A n c B m d)
  have ba_2 := ba_1.alloc (EQ t A' n' c' B' m' d')
  have bb_2 : Sq (((w).alloc (EQ s A n c B m d)).alloc (EQ t A' n' c' B' m' d')) (w.heap.size + 1) (.bool t) (.slice A' n' c') (.slice B' m' d') := by have h_ := Sq.new ((w).alloc (EQ s A n c B m d)) (.bool t) (.slice A' n' c') (.slice B' m' d'); simp only [World.size_alloc] at h_; exact h_
  have F2 := F1.alloc F1.size (EQ t A' n' c' B' m' d')
  go_enter Try.func10, Try.ntmps10
  go_wp2_with fail
  refine (awake_q _).mono ?_
  rintro e w3 ⟨rfl, b3⟩
  have ba_3 := ba_2.below b3 ba_2.lt
  have bb_3 := bb_2.below b3 bb_2.lt
  have F3 := below_then F2 (Nat.le_refl _) b3
  have ba_u3 := ba_3.cell0
  have ba_v3 := ba_3.cell1
  have ba_w3 := ba_3.cell2
  have bb_u3 := bb_3.cell0
  have bb_v3 := bb_3.cell1
  have bb_w3 := bb_3.cell2
  go_wp2_with fail
  refine (few_q _ _ _ _ _ _ _ _ _ hf1.out).mono ?_
  rintro e w4 ⟨rfl, b4⟩
  have ba_4 := ba_3.below b4 ba_3.lt
  have bb_4 := bb_3.below b4 bb_3.lt
  have F4 := below_then F3 (Nat.le_refl _) b4
  have ba_u4 := ba_4.cell0
  have ba_v4 := ba_4.cell1
  have ba_w4 := ba_4.cell2
  have bb_u4 := bb_4.cell0
  have bb_v4 := bb_4.cell1
  have bb_w4 := bb_4.cell2
  go_wp2_with fail
  refine (few_q _ _ _ _ _ _ _ _ _ hf2.out).mono ?_
  rintro e w5 ⟨rfl, b5⟩
  have ba_5 := ba_4.below b5 ba_4.lt
  have bb_5 := bb_4.below b5 bb_4.lt
  have F5 := below_then F4 (Nat.le_refl _) b5
  have ba_u5 := ba_5.cell0
  have ba_v5 := ba_5.cell1
  have ba_w5 := ba_5.cell2
  have bb_u5 := bb_5.cell0
  have bb_v5 := bb_5.cell1
  have bb_w5 := bb_5.cell2
  go_wp2
  go_ret
  exact ⟨rfl, F5⟩
set_option maxHeartbeats 2000000 in
theorem lsim_below (s t : Bool) (A B A' B' : Option Addr) (n c m d n' c' m' d' : Nat) (v : Nat) (p q : Rat) (w : World) (hv : v < 65536) (h : Iq w s A n c B m d p) (k : Iq w t A' n' c' B' m' d' q) (h1 : n ≤ 3 ∧ m ≤ 3) (h2 : n' ≤ 3 ∧ m' ≤ 3) (x : Rat) (hx : (((v : Int) / 256 - 128 : Int) : Rat) / (((v : Int) % 50 + 1 : Int) : Rat) = x) (hp : ¬ p ≤ x) :
    Calls Try.prog 10 #[.agg #[.bool s, .slice A n c, .slice B m d], .agg #[.bool t, .slice A' n' c', .slice B' m' d'], .int .u16 (v : Int)] w fun e w' => e = .returned (.bool true) ∧ Below w.heap.size w w' := by
  have hf1 := hide (decide_eq_true h1)
  have hf2 := hide (decide_eq_true h2)
  have la : n ≤ 4000 ∧ m ≤ 4000 := by omega
  have lb : n' ≤ 4000 ∧ m' ≤ 4000 := by omega
  have two : pw 2 = 18446744073709551616 := by decide
  have si : ∀ z : Int, z.natAbs < pw 2 → Qs 2 (z : Rat) := fun z hz => ⟨by simpa using hz, Nat.lt_of_lt_of_le (by simpa using (by decide : 1 < pw 1)) (pw_mono (by omega))⟩
  have sx : Qs 4 x := by rw [← hx]; exact size_div (si _ (by omega)) (si _ (by omega)) (by omega)
  have sp : Qs 3 p := h.size h1.1 h1.2 (by omega)
  have HX := hide hx
  obtain ⟨r1, hr1⟩ : ∃ r, sz (p - x).num = r := ⟨_, rfl⟩
  obtain ⟨r2, hr2⟩ : ∃ r, sz (x - q).num = r := ⟨_, rfl⟩
  have HR1 := hide hr1
  have HR2 := hide hr2
  have d1 : decide (0 < r1) = true := by rw [← hr1]; exact decide_eq_true (gt_of hp)
  clear hx hr1 hr2 hp h1 h2
  have h_1 := h.alloc (EQ s A n c B m d)
  have k_1 := k.alloc (EQ s A n c B m d)
  have ba_1 : Sq ((w).alloc (EQ s A n c B m d)) (w.heap.size) (.bool s) (.slice A n c) (.slice B m d) := by have h_ := Sq.new (w) (.bool s) (.slice A n c) (.slice B m d); exact h_
  have F1 := (Below.refl w.heap.size w).alloc (Nat.le_refl _) (EQ s A n c B m d)
  have h_2 := h_1.alloc (EQ t A' n' c' B' m' d')
  have k_2 := k_1.alloc (EQ t A' n' c' B' m' d')
  have ba_2 := ba_1.alloc (EQ t A' n' c' B' m' d')
  have bb_2 : Sq (((w).alloc (EQ s A n c B m d)).alloc (EQ t A' n' c' B' m' d')) (w.heap.size + 1) (.bool t) (.slice A' n' c') (.slice B' m' d') := by have h_ := Sq.new ((w).alloc (EQ s A n c B m d)) (.bool t) (.slice A' n' c') (.slice B' m' d'); simp only [World.size_alloc] at h_; exact h_
  have F2 := F1.alloc F1.size (EQ t A' n' c' B' m' d')
  go_enter Try.func10, Try.ntmps10
  go_wp2_with fail
  refine (awake_q _).mono ?_
  rintro e w3 ⟨rfl, b3⟩
  have h_3 := h_2.below b3
  have k_3 := k_2.below b3
  have ba_3 := ba_2.below b3 ba_2.lt
  have bb_3 := bb_2.below b3 bb_2.lt
  have F3 := below_then F2 (Nat.le_refl _) b3
  have ba_u3 := ba_3.cell0
  have ba_v3 := ba_3.cell1
  have ba_w3 := ba_3.cell2
  have bb_u3 := bb_3.cell0
  have bb_v3 := bb_3.cell1
  have bb_w3 := bb_3.cell2
  go_wp2_with fail
  refine (few_q _ _ _ _ _ _ _ _ _ hf1.out).mono ?_
  rintro e w4 ⟨rfl, b4⟩
  have h_4 := h_3.below b4
  have k_4 := k_3.below b4
  have ba_4 := ba_3.below b4 ba_3.lt
  have bb_4 := bb_3.below b4 bb_3.lt
  have F4 := below_then F3 (Nat.le_refl _) b4
  have ba_u4 := ba_4.cell0
  have ba_v4 := ba_4.cell1
  have ba_w4 := ba_4.cell2
  have bb_u4 := bb_4.cell0
  have bb_v4 := bb_4.cell1
  have bb_w4 := bb_4.cell2
  go_wp2_with fail
  refine (few_q _ _ _ _ _ _ _ _ _ hf2.out).mono ?_
  rintro e w5 ⟨rfl, b5⟩
  have h_5 := h_4.below b5
  have k_5 := k_4.below b5
  have ba_5 := ba_4.below b5 ba_4.lt
  have bb_5 := bb_4.below b5 bb_4.lt
  have F5 := below_then F4 (Nat.le_refl _) b5
  have ba_u5 := ba_5.cell0
  have ba_v5 := ba_5.cell1
  have ba_w5 := ba_5.cell2
  have bb_u5 := bb_5.cell0
  have bb_v5 := bb_5.cell1
  have bb_w5 := bb_5.cell2
  go_wp2_with fail
  refine (lfrac_at _ _ ((v : Int) / 256 - 128) ((v : Int) % 50 + 1) x _ (by omega) (by omega) HX.out (by omega) (by omega) (by omega)).mono ?_
  rintro e w6 ⟨s6, A6, n6, c6, B6, m6, d6, rfl, X0, b6⟩
  have h_6 := h_5.below b6
  have k_6 := k_5.below b6
  have ba_6 := ba_5.below b6 ba_5.lt
  have bb_6 := bb_5.below b6 bb_5.lt
  have F6 := below_then F5 (Nat.le_refl _) b6
  have ba_u6 := ba_6.cell0
  have ba_v6 := ba_6.cell1
  have ba_w6 := ba_6.cell2
  have bb_u6 := bb_6.cell0
  have bb_v6 := bb_6.cell1
  have bb_w6 := bb_6.cell2
  have lt_bx_ba := ba_6.lt
  have lt_bx_bb := bb_6.lt
  have h_7 := h_6.alloc (EQ s6 A6 n6 c6 B6 m6 d6)
  have k_7 := k_6.alloc (EQ s6 A6 n6 c6 B6 m6 d6)
  have X0_7 := X0.alloc (EQ s6 A6 n6 c6 B6 m6 d6)
  have ba_7 := ba_6.alloc (EQ s6 A6 n6 c6 B6 m6 d6)
  have bb_7 := bb_6.alloc (EQ s6 A6 n6 c6 B6 m6 d6)
  have bx_7 : Sq ((w6).alloc (EQ s6 A6 n6 c6 B6 m6 d6)) (w6.heap.size) (.bool s6) (.slice A6 n6 c6) (.slice B6 m6 d6) := by have h_ := Sq.new (w6) (.bool s6) (.slice A6 n6 c6) (.slice B6 m6 d6); exact h_
  have F7 := F6.alloc F6.size (EQ s6 A6 n6 c6 B6 m6 d6)
  have lx := X0_7.small sx (by omega)
  have xi := X0_7.iq
  have ba_u7 := ba_7.cell0
  have ba_v7 := ba_7.cell1
  have ba_w7 := ba_7.cell2
  have bb_u7 := bb_7.cell0
  have bb_v7 := bb_7.cell1
  have bb_w7 := bb_7.cell2
  have bx_u7 := bx_7.cell0
  have bx_v7 := bx_7.cell1
  have bx_w7 := bx_7.cell2
  go_wp2_with fail
  refine (rcmp_q _ _ _ _ _ _ _ _ _ _ _ _ _ _ _ _ _ _ HR1.out h_7 X0_7.iq la.1 la.2 lx.1 lx.2).mono ?_
  rintro e w8 ⟨rfl, b8⟩
  have h_8 := h_7.below b8
  have k_8 := k_7.below b8
  have X0_8 := X0_7.below b8
  have ba_8 := ba_7.below b8 ba_7.lt
  have bb_8 := bb_7.below b8 bb_7.lt
  have bx_8 := bx_7.below b8 bx_7.lt
  have F8 := below_then F7 (Nat.le_refl _) b8
  have ba_u8 := ba_8.cell0
  have ba_v8 := ba_8.cell1
  have ba_w8 := ba_8.cell2
  have bb_u8 := bb_8.cell0
  have bb_v8 := bb_8.cell1
  have bb_w8 := bb_8.cell2
  have bx_u8 := bx_8.cell0
  have bx_v8 := bx_8.cell1
  have bx_w8 := bx_8.cell2
  go_wp2
  go_ret
  exact ⟨rfl, F8⟩
set_option maxHeartbeats 2000000 in
theorem lsim_above (s t : Bool) (A B A' B' : Option Addr) (n c m d n' c' m' d' : Nat) (v : Nat) (p q : Rat) (w : World) (hv : v < 65536) (h : Iq w s A n c B m d p) (k : Iq w t A' n' c' B' m' d' q) (h1 : n ≤ 3 ∧ m ≤ 3) (h2 : n' ≤ 3 ∧ m' ≤ 3) (x : Rat) (hx : (((v : Int) / 256 - 128 : Int) : Rat) / (((v : Int) % 50 + 1 : Int) : Rat) = x) (hp : p ≤ x) (hq : ¬ x ≤ q) :
    Calls Try.prog 10 #[.agg #[.bool s, .slice A n c, .slice B m d], .agg #[.bool t, .slice A' n' c', .slice B' m' d'], .int .u16 (v : Int)] w fun e w' => e = .returned (.bool true) ∧ Below w.heap.size w w' := by
  have hf1 := hide (decide_eq_true h1)
  have hf2 := hide (decide_eq_true h2)
  have la : n ≤ 4000 ∧ m ≤ 4000 := by omega
  have lb : n' ≤ 4000 ∧ m' ≤ 4000 := by omega
  have two : pw 2 = 18446744073709551616 := by decide
  have si : ∀ z : Int, z.natAbs < pw 2 → Qs 2 (z : Rat) := fun z hz => ⟨by simpa using hz, Nat.lt_of_lt_of_le (by simpa using (by decide : 1 < pw 1)) (pw_mono (by omega))⟩
  have sx : Qs 4 x := by rw [← hx]; exact size_div (si _ (by omega)) (si _ (by omega)) (by omega)
  have sp : Qs 3 p := h.size h1.1 h1.2 (by omega)
  have HX := hide hx
  obtain ⟨r1, hr1⟩ : ∃ r, sz (p - x).num = r := ⟨_, rfl⟩
  obtain ⟨r2, hr2⟩ : ∃ r, sz (x - q).num = r := ⟨_, rfl⟩
  have HR1 := hide hr1
  have HR2 := hide hr2
  have d1 : decide (0 < r1) = false := by rw [← hr1]; exact decide_eq_false (ngt_of hp)
  have d2 : decide (0 < r2) = true := by rw [← hr2]; exact decide_eq_true (gt_of hq)
  clear hx hr1 hr2 hp hq h1 h2
  have h_1 := h.alloc (EQ s A n c B m d)
  have k_1 := k.alloc (EQ s A n c B m d)
  have ba_1 : Sq ((w).alloc (EQ s A n c B m d)) (w.heap.size) (.bool s) (.slice A n c) (.slice B m d) := by have h_ := Sq.new (w) (.bool s) (.slice A n c) (.slice B m d); exact h_
  have F1 := (Below.refl w.heap.size w).alloc (Nat.le_refl _) (EQ s A n c B m d)
  have h_2 := h_1.alloc (EQ t A' n' c' B' m' d')
  have k_2 := k_1.alloc (EQ t A' n' c' B' m' d')
  have ba_2 := ba_1.alloc (EQ t A' n' c' B' m' d')
  have bb_2 : Sq (((w).alloc (EQ s A n c B m d)).alloc (EQ t A' n' c' B' m' d')) (w.heap.size + 1) (.bool t) (.slice A' n' c') (.slice B' m' d') := by have h_ := Sq.new ((w).alloc (EQ s A n c B m d)) (.bool t) (.slice A' n' c') (.slice B' m' d'); simp only [World.size_alloc] at h_; exact h_
  have F2 := F1.alloc F1.size (EQ t A' n' c' B' m' d')
  go_enter Try.func10, Try.ntmps10
  go_wp2_with fail
  refine (awake_q _).mono ?_
  rintro e w3 ⟨rfl, b3⟩
  have h_3 := h_2.below b3
  have k_3 := k_2.below b3
  have ba_3 := ba_2.below b3 ba_2.lt
  have bb_3 := bb_2.below b3 bb_2.lt
  have F3 := below_then F2 (Nat.le_refl _) b3
  have ba_u3 := ba_3.cell0
  have ba_v3 := ba_3.cell1
  have ba_w3 := ba_3.cell2
  have bb_u3 := bb_3.cell0
  have bb_v3 := bb_3.cell1
  have bb_w3 := bb_3.cell2
  go_wp2_with fail
  refine (few_q _ _ _ _ _ _ _ _ _ hf1.out).mono ?_
  rintro e w4 ⟨rfl, b4⟩
  have h_4 := h_3.below b4
  have k_4 := k_3.below b4
  have ba_4 := ba_3.below b4 ba_3.lt
  have bb_4 := bb_3.below b4 bb_3.lt
  have F4 := below_then F3 (Nat.le_refl _) b4
  have ba_u4 := ba_4.cell0
  have ba_v4 := ba_4.cell1
  have ba_w4 := ba_4.cell2
  have bb_u4 := bb_4.cell0
  have bb_v4 := bb_4.cell1
  have bb_w4 := bb_4.cell2
  go_wp2_with fail
  refine (few_q _ _ _ _ _ _ _ _ _ hf2.out).mono ?_
  rintro e w5 ⟨rfl, b5⟩
  have h_5 := h_4.below b5
  have k_5 := k_4.below b5
  have ba_5 := ba_4.below b5 ba_4.lt
  have bb_5 := bb_4.below b5 bb_4.lt
  have F5 := below_then F4 (Nat.le_refl _) b5
  have ba_u5 := ba_5.cell0
  have ba_v5 := ba_5.cell1
  have ba_w5 := ba_5.cell2
  have bb_u5 := bb_5.cell0
  have bb_v5 := bb_5.cell1
  have bb_w5 := bb_5.cell2
  go_wp2_with fail
  refine (lfrac_at _ _ ((v : Int) / 256 - 128) ((v : Int) % 50 + 1) x _ (by omega) (by omega) HX.out (by omega) (by omega) (by omega)).mono ?_
  rintro e w6 ⟨s6, A6, n6, c6, B6, m6, d6, rfl, X0, b6⟩
  have h_6 := h_5.below b6
  have k_6 := k_5.below b6
  have ba_6 := ba_5.below b6 ba_5.lt
  have bb_6 := bb_5.below b6 bb_5.lt
  have F6 := below_then F5 (Nat.le_refl _) b6
  have ba_u6 := ba_6.cell0
  have ba_v6 := ba_6.cell1
  have ba_w6 := ba_6.cell2
  have bb_u6 := bb_6.cell0
  have bb_v6 := bb_6.cell1
  have bb_w6 := bb_6.cell2
  have lt_bx_ba := ba_6.lt
  have lt_bx_bb := bb_6.lt
  have h_7 := h_6.alloc (EQ s6 A6 n6 c6 B6 m6 d6)
  have k_7 := k_6.alloc (EQ s6 A6 n6 c6 B6 m6 d6)
  have X0_7 := X0.alloc (EQ s6 A6 n6 c6 B6 m6 d6)
  have ba_7 := ba_6.alloc (EQ s6 A6 n6 c6 B6 m6 d6)
  have bb_7 := bb_6.alloc (EQ s6 A6 n6 c6 B6 m6 d6)
  have bx_7 : Sq ((w6).alloc (EQ s6 A6 n6 c6 B6 m6 d6)) (w6.heap.size) (.bool s6) (.slice A6 n6 c6) (.slice B6 m6 d6) := by have h_ := Sq.new (w6) (.bool s6) (.slice A6 n6 c6) (.slice B6 m6 d6); exact h_
  have F7 := F6.alloc F6.size (EQ s6 A6 n6 c6 B6 m6 d6)
  have lx := X0_7.small sx (by omega)
  have xi := X0_7.iq
  have ba_u7 := ba_7.cell0
  have ba_v7 := ba_7.cell1
  have ba_w7 := ba_7.cell2
  have bb_u7 := bb_7.cell0
  have bb_v7 := bb_7.cell1
  have bb_w7 := bb_7.cell2
  have bx_u7 := bx_7.cell0
  have bx_v7 := bx_7.cell1
  have bx_w7 := bx_7.cell2
  go_wp2_with fail
  refine (rcmp_q _ _ _ _ _ _ _ _ _ _ _ _ _ _ _ _ _ _ HR1.out h_7 X0_7.iq la.1 la.2 lx.1 lx.2).mono ?_
  rintro e w8 ⟨rfl, b8⟩
  have h_8 := h_7.below b8
  have k_8 := k_7.below b8
  have X0_8 := X0_7.below b8
  have ba_8 := ba_7.below b8 ba_7.lt
  have bb_8 := bb_7.below b8 bb_7.lt
  have bx_8 := bx_7.below b8 bx_7.lt
  have F8 := below_then F7 (Nat.le_refl _) b8
  have ba_u8 := ba_8.cell0
  have ba_v8 := ba_8.cell1
  have ba_w8 := ba_8.cell2
  have bb_u8 := bb_8.cell0
  have bb_v8 := bb_8.cell1
  have bb_w8 := bb_8.cell2
  have bx_u8 := bx_8.cell0
  have bx_v8 := bx_8.cell1
  have bx_w8 := bx_8.cell2
  go_wp2_with fail
  refine (rcmp_q _ _ _ _ _ _ _ _ _ _ _ _ _ _ _ _ _ _ HR2.out X0_8.iq k_8 lx.1 lx.2 lb.1 lb.2).mono ?_
  rintro e w9 ⟨rfl, b9⟩
  have h_9 := h_8.below b9
  have k_9 := k_8.below b9
  have X0_9 := X0_8.below b9
  have ba_9 := ba_8.below b9 ba_8.lt
  have bb_9 := bb_8.below b9 bb_8.lt
  have bx_9 := bx_8.below b9 bx_8.lt
  have F9 := below_then F8 (Nat.le_refl _) b9
  have ba_u9 := ba_9.cell0
  have ba_v9 := ba_9.cell1
  have ba_w9 := ba_9.cell2
  have bb_u9 := bb_9.cell0
  have bb_v9 := bb_9.cell1
  have bb_w9 := bb_9.cell2
  have bx_u9 := bx_9.cell0
  have bx_v9 := bx_9.cell1
  have bx_w9 := bx_9.cell2
  go_wp2
  go_ret
  exact ⟨rfl, F9⟩
set_option maxHeartbeats 2000000 in
theorem lsim_in_lt (s t : Bool) (A B A' B' : Option Addr) (n c m d n' c' m' d' : Nat) (v : Nat) (p q : Rat) (w : World) (hv : v < 65536) (h : Iq w s A n c B m d p) (k : Iq w t A' n' c' B' m' d' q) (h1 : n ≤ 3 ∧ m ≤ 3) (h2 : n' ≤ 3 ∧ m' ≤ 3) (x : Rat) (hx : (((v : Int) / 256 - 128 : Int) : Rat) / (((v : Int) % 50 + 1 : Int) : Rat) = x) (hp : p ≤ x) (hq : x ≤ q) (y : Rat) (hy : smp p q = y) (hd : y.den < x.den) :
    Calls Try.prog 10 #[.agg #[.bool s, .slice A n c, .slice B m d], .agg #[.bool t, .slice A' n' c', .slice B' m' d'], .int .u16 (v : Int)] w fun e w' => e = .returned (.bool true) ∧ Below w.heap.size w w' := by
  have hf1 := hide (decide_eq_true h1)
  have hf2 := hide (decide_eq_true h2)
  have la : n ≤ 4000 ∧ m ≤ 4000 := by omega
  have lb : n' ≤ 4000 ∧ m' ≤ 4000 := by omega
  have two : pw 2 = 18446744073709551616 := by decide
  have si : ∀ z : Int, z.natAbs < pw 2 → Qs 2 (z : Rat) := fun z hz => ⟨by simpa using hz, Nat.lt_of_lt_of_le (by simpa using (by decide : 1 < pw 1)) (pw_mono (by omega))⟩
  have sx : Qs 4 x := by rw [← hx]; exact size_div (si _ (by omega)) (si _ (by omega)) (by omega)
  have sp : Qs 3 p := h.size h1.1 h1.2 (by omega)
  have HX := hide hx
  obtain ⟨r1, hr1⟩ : ∃ r, sz (p - x).num = r := ⟨_, rfl⟩
  obtain ⟨r2, hr2⟩ : ∃ r, sz (x - q).num = r := ⟨_, rfl⟩
  have HR1 := hide hr1
  have HR2 := hide hr2
  have d1 : decide (0 < r1) = false := by rw [← hr1]; exact decide_eq_false (ngt_of hp)
  have d2 : decide (0 < r2) = false := by rw [← hr2]; exact decide_eq_false (ngt_of hq)
  have hpq : p ≤ q := Rat.le_trans hp hq
  obtain ⟨y1, y2, y3⟩ := smp_simple p q hpq
  rw [hy] at y1 y2 y3
  obtain ⟨yx1, yx2⟩ := y3 x hp hq
  obtain ⟨yp1, yp2⟩ := y3 p Rat.le_refl hpq
  have sy : Qs 3 y := ⟨Nat.lt_of_le_of_lt yp2 sp.1, Nat.lt_of_le_of_lt yp1 sp.2⟩
  obtain ⟨r3, hr3⟩ : ∃ r, sz (p - y).num = r := ⟨_, rfl⟩
  obtain ⟨r4, hr4⟩ : ∃ r, sz (y - q).num = r := ⟨_, rfl⟩
  have d3 : decide (0 < r3) = false := by rw [← hr3]; exact decide_eq_false (ngt_of y1)
  have d4 : decide (0 < r4) = false := by rw [← hr4]; exact decide_eq_false (ngt_of y2)
  have HR3 := hide hr3
  have HR4 := hide hr4
  have HY := hide hy
  have HPQ := hide hpq
  have n3 : n ≤ 3 := h1.1
  have m3 : m ≤ 3 := h1.2
  have n3' : n' ≤ 3 := h2.1
  have m3' : m' ≤ 3 := h2.2
  have k3 : 3 ≤ 1000 := by omega
  have k1 : 1 ≤ 3 := by omega
  have a3 : 3 ≤ 16384 := by omega
  have a4 : 4 ≤ 16384 := by omega
  have sy2 : y.den < pw 3 := sy.2
  have sx2 : x.den < pw 4 := sx.2
  obtain ⟨L1, hL1⟩ : ∃ L, (dg y.den).length = L := ⟨_, rfl⟩
  obtain ⟨L2, hL2⟩ : ∃ L, (dg x.den).length = L := ⟨_, rfl⟩
  have lL1 : L1 ≤ 1048576 := by rw [← hL1]; exact Nat.le_trans (dg_le sy.2) (by omega)
  have lL2 : L2 ≤ 1048576 := by rw [← hL2]; exact Nat.le_trans (dg_le sx.2) (by omega)
  have HL1 := hide hL1
  have HL2 := hide hL2
  have HC := hide (show sg (val (dg y.den)) (val (dg x.den)) = -1 by rw [val_dg, val_dg]; exact sg_lt hd)
  clear hx hr1 hr2 hr3 hr4 hp hq h1 h2 hy hpq y1 y2 y3 yx1 yx2 yp1 yp2 hd hL1 hL2
  have h_1 := h.alloc (EQ s A n c B m d)
  have k_1 := k.alloc (EQ s A n c B m d)
  have ba_1 : Sq ((w).alloc (EQ s A n c B m d)) (w.heap.size) (.bool s) (.slice A n c) (.slice B m d) := by have h_ := Sq.new (w) (.bool s) (.slice A n c) (.slice B m d); exact h_
  have F1 := (Below.refl w.heap.size w).alloc (Nat.le_refl _) (EQ s A n c B m d)
  have h_2 := h_1.alloc (EQ t A' n' c' B' m' d')
  have k_2 := k_1.alloc (EQ t A' n' c' B' m' d')
  have ba_2 := ba_1.alloc (EQ t A' n' c' B' m' d')
  have bb_2 : Sq (((w).alloc (EQ s A n c B m d)).alloc (EQ t A' n' c' B' m' d')) (w.heap.size + 1) (.bool t) (.slice A' n' c') (.slice B' m' d') := by have h_ := Sq.new ((w).alloc (EQ s A n c B m d)) (.bool t) (.slice A' n' c') (.slice B' m' d'); simp only [World.size_alloc] at h_; exact h_
  have F2 := F1.alloc F1.size (EQ t A' n' c' B' m' d')
  go_enter Try.func10, Try.ntmps10
  go_wp2_with fail
  refine (awake_q _).mono ?_
  rintro e w3 ⟨rfl, b3⟩
  have h_3 := h_2.below b3
  have k_3 := k_2.below b3
  have ba_3 := ba_2.below b3 ba_2.lt
  have bb_3 := bb_2.below b3 bb_2.lt
  have F3 := below_then F2 (Nat.le_refl _) b3
  have ba_u3 := ba_3.cell0
  have ba_v3 := ba_3.cell1
  have ba_w3 := ba_3.cell2
  have bb_u3 := bb_3.cell0
  have bb_v3 := bb_3.cell1
  have bb_w3 := bb_3.cell2
  go_wp2_with fail
  refine (few_q _ _ _ _ _ _ _ _ _ hf1.out).mono ?_
  rintro e w4 ⟨rfl, b4⟩
  have h_4 := h_3.below b4
  have k_4 := k_3.below b4
  have ba_4 := ba_3.below b4 ba_3.lt
  have bb_4 := bb_3.below b4 bb_3.lt
  have F4 := below_then F3 (Nat.le_refl _) b4
  have ba_u4 := ba_4.cell0
  have ba_v4 := ba_4.cell1
  have ba_w4 := ba_4.cell2
  have bb_u4 := bb_4.cell0
  have bb_v4 := bb_4.cell1
  have bb_w4 := bb_4.cell2
  go_wp2_with fail
  refine (few_q _ _ _ _ _ _ _ _ _ hf2.out).mono ?_
  rintro e w5 ⟨rfl, b5⟩
  have h_5 := h_4.below b5
  have k_5 := k_4.below b5
  have ba_5 := ba_4.below b5 ba_4.lt
  have bb_5 := bb_4.below b5 bb_4.lt
  have F5 := below_then F4 (Nat.le_refl _) b5
  have ba_u5 := ba_5.cell0
  have ba_v5 := ba_5.cell1
  have ba_w5 := ba_5.cell2
  have bb_u5 := bb_5.cell0
  have bb_v5 := bb_5.cell1
  have bb_w5 := bb_5.cell2
  go_wp2_with fail
  refine (lfrac_at _ _ ((v : Int) / 256 - 128) ((v : Int) % 50 + 1) x _ (by omega) (by omega) HX.out (by omega) (by omega) (by omega)).mono ?_
  rintro e w6 ⟨s6, A6, n6, c6, B6, m6, d6, rfl, X0, b6⟩
  have h_6 := h_5.below b6
  have k_6 := k_5.below b6
  have ba_6 := ba_5.below b6 ba_5.lt
  have bb_6 := bb_5.below b6 bb_5.lt
  have F6 := below_then F5 (Nat.le_refl _) b6
  have ba_u6 := ba_6.cell0
  have ba_v6 := ba_6.cell1
  have ba_w6 := ba_6.cell2
  have bb_u6 := bb_6.cell0
  have bb_v6 := bb_6.cell1
  have bb_w6 := bb_6.cell2
  have lt_bx_ba := ba_6.lt
  have lt_bx_bb := bb_6.lt
  have h_7 := h_6.alloc (EQ s6 A6 n6 c6 B6 m6 d6)
  have k_7 := k_6.alloc (EQ s6 A6 n6 c6 B6 m6 d6)
  have X0_7 := X0.alloc (EQ s6 A6 n6 c6 B6 m6 d6)
  have ba_7 := ba_6.alloc (EQ s6 A6 n6 c6 B6 m6 d6)
  have bb_7 := bb_6.alloc (EQ s6 A6 n6 c6 B6 m6 d6)
  have bx_7 : Sq ((w6).alloc (EQ s6 A6 n6 c6 B6 m6 d6)) (w6.heap.size) (.bool s6) (.slice A6 n6 c6) (.slice B6 m6 d6) := by have h_ := Sq.new (w6) (.bool s6) (.slice A6 n6 c6) (.slice B6 m6 d6); exact h_
  have F7 := F6.alloc F6.size (EQ s6 A6 n6 c6 B6 m6 d6)
  have lx := X0_7.small sx (by omega)
  have xi := X0_7.iq
  have ba_u7 := ba_7.cell0
  have ba_v7 := ba_7.cell1
  have ba_w7 := ba_7.cell2
  have bb_u7 := bb_7.cell0
  have bb_v7 := bb_7.cell1
  have bb_w7 := bb_7.cell2
  have bx_u7 := bx_7.cell0
  have bx_v7 := bx_7.cell1
  have bx_w7 := bx_7.cell2
  go_wp2_with fail
  refine (rcmp_q _ _ _ _ _ _ _ _ _ _ _ _ _ _ _ _ _ _ HR1.out h_7 X0_7.iq la.1 la.2 lx.1 lx.2).mono ?_
  rintro e w8 ⟨rfl, b8⟩
  have h_8 := h_7.below b8
  have k_8 := k_7.below b8
  have X0_8 := X0_7.below b8
  have ba_8 := ba_7.below b8 ba_7.lt
  have bb_8 := bb_7.below b8 bb_7.lt
  have bx_8 := bx_7.below b8 bx_7.lt
  have F8 := below_then F7 (Nat.le_refl _) b8
  have ba_u8 := ba_8.cell0
  have ba_v8 := ba_8.cell1
  have ba_w8 := ba_8.cell2
  have bb_u8 := bb_8.cell0
  have bb_v8 := bb_8.cell1
  have bb_w8 := bb_8.cell2
  have bx_u8 := bx_8.cell0
  have bx_v8 := bx_8.cell1
  have bx_w8 := bx_8.cell2
  go_wp2_with fail
  refine (rcmp_q _ _ _ _ _ _ _ _ _ _ _ _ _ _ _ _ _ _ HR2.out X0_8.iq k_8 lx.1 lx.2 lb.1 lb.2).mono ?_
  rintro e w9 ⟨rfl, b9⟩
  have h_9 := h_8.below b9
  have k_9 := k_8.below b9
  have X0_9 := X0_8.below b9
  have ba_9 := ba_8.below b9 ba_8.lt
  have bb_9 := bb_8.below b9 bb_8.lt
  have bx_9 := bx_8.below b9 bx_8.lt
  have F9 := below_then F8 (Nat.le_refl _) b9
  have ba_u9 := ba_9.cell0
  have ba_v9 := ba_9.cell1
  have ba_w9 := ba_9.cell2
  have bb_u9 := bb_9.cell0
  have bb_v9 := bb_9.cell1
  have bb_w9 := bb_9.cell2
  have bx_u9 := bx_9.cell0
  have bx_v9 := bx_9.cell1
  have bx_w9 := bx_9.cell2
  go_wp2_with fail
  refine (simplest_q _ _ _ _ _ _ _ _ _ _ _ _ _ _ _ _ _ 3 k3 k1 h_9 k_9 n3 m3 n3' m3' HPQ.out).mono ?_
  rintro e w10 ⟨s10, A10, n10, c10, B10, m10, d10, rfl, Y0, b10⟩
  have h_10 := h_9.below b10
  have k_10 := k_9.below b10
  have X0_10 := X0_9.below b10
  have ba_10 := ba_9.below b10 ba_9.lt
  have bb_10 := bb_9.below b10 bb_9.lt
  have bx_10 := bx_9.below b10 bx_9.lt
  have F10 := below_then F9 (Nat.le_refl _) b10
  have ba_u10 := ba_10.cell0
  have ba_v10 := ba_10.cell1
  have ba_w10 := ba_10.cell2
  have bb_u10 := bb_10.cell0
  have bb_v10 := bb_10.cell1
  have bb_w10 := bb_10.cell2
  have bx_u10 := bx_10.cell0
  have bx_v10 := bx_10.cell1
  have bx_w10 := bx_10.cell2
  have Y0_ok := Y0.to HY.out
  have lt_by__ba := ba_10.lt
  have lt_by__bb := bb_10.lt
  have lt_by__bx := bx_10.lt
  have h_11 := h_10.alloc (EQ s10 A10 n10 c10 B10 m10 d10)
  have k_11 := k_10.alloc (EQ s10 A10 n10 c10 B10 m10 d10)
  have X0_11 := X0_10.alloc (EQ s10 A10 n10 c10 B10 m10 d10)
  have Y0_11 := Y0_ok.alloc (EQ s10 A10 n10 c10 B10 m10 d10)
  have ba_11 := ba_10.alloc (EQ s10 A10 n10 c10 B10 m10 d10)
  have bb_11 := bb_10.alloc (EQ s10 A10 n10 c10 B10 m10 d10)
  have bx_11 := bx_10.alloc (EQ s10 A10 n10 c10 B10 m10 d10)
  have by__11 : Sq ((w10).alloc (EQ s10 A10 n10 c10 B10 m10 d10)) (w10.heap.size) (.bool s10) (.slice A10 n10 c10) (.slice B10 m10 d10) := by have h_ := Sq.new (w10) (.bool s10) (.slice A10 n10 c10) (.slice B10 m10 d10); exact h_
  have F11 := F10.alloc F10.size (EQ s10 A10 n10 c10 B10 m10 d10)
  have ly := Y0_11.small sy (by omega)
  have ly6 := Y0_11.tiny6 sy a3
  have lx6 := X0_11.tiny6 sx a4
  have ba_u11 := ba_11.cell0
  have ba_v11 := ba_11.cell1
  have ba_w11 := ba_11.cell2
  have bb_u11 := bb_11.cell0
  have bb_v11 := bb_11.cell1
  have bb_w11 := bb_11.cell2
  have bx_u11 := bx_11.cell0
  have bx_v11 := bx_11.cell1
  have bx_w11 := bx_11.cell2
  have by__u11 := by__11.cell0
  have by__v11 := by__11.cell1
  have by__w11 := by__11.cell2
  go_wp2_with fail
  refine (rcmp_q _ _ _ _ _ _ _ _ _ _ _ _ _ _ _ _ _ _ HR3.out h_11 Y0_11.iq la.1 la.2 ly.1 ly.2).mono ?_
  rintro e w12 ⟨rfl, b12⟩
  have h_12 := h_11.below b12
  have k_12 := k_11.below b12
  have X0_12 := X0_11.below b12
  have Y0_12 := Y0_11.below b12
  have ba_12 := ba_11.below b12 ba_11.lt
  have bb_12 := bb_11.below b12 bb_11.lt
  have bx_12 := bx_11.below b12 bx_11.lt
  have by__12 := by__11.below b12 by__11.lt
  have F12 := below_then F11 (Nat.le_refl _) b12
  have ba_u12 := ba_12.cell0
  have ba_v12 := ba_12.cell1
  have ba_w12 := ba_12.cell2
  have bb_u12 := bb_12.cell0
  have bb_v12 := bb_12.cell1
  have bb_w12 := bb_12.cell2
  have bx_u12 := bx_12.cell0
  have bx_v12 := bx_12.cell1
  have bx_w12 := bx_12.cell2
  have by__u12 := by__12.cell0
  have by__v12 := by__12.cell1
  have by__w12 := by__12.cell2
  go_wp2_with fail
  refine (rcmp_q _ _ _ _ _ _ _ _ _ _ _ _ _ _ _ _ _ _ HR4.out Y0_12.iq k_12 ly.1 ly.2 lb.1 lb.2).mono ?_
  rintro e w13 ⟨rfl, b13⟩
  have h_13 := h_12.below b13
  have k_13 := k_12.below b13
  have X0_13 := X0_12.below b13
  have Y0_13 := Y0_12.below b13
  have ba_13 := ba_12.below b13 ba_12.lt
  have bb_13 := bb_12.below b13 bb_12.lt
  have bx_13 := bx_12.below b13 bx_12.lt
  have by__13 := by__12.below b13 by__12.lt
  have F13 := below_then F12 (Nat.le_refl _) b13
  have ba_u13 := ba_13.cell0
  have ba_v13 := ba_13.cell1
  have ba_w13 := ba_13.cell2
  have bb_u13 := bb_13.cell0
  have bb_v13 := bb_13.cell1
  have bb_w13 := bb_13.cell2
  have bx_u13 := bx_13.cell0
  have bx_v13 := bx_13.cell1
  have bx_w13 := bx_13.cell2
  have by__u13 := by__13.cell0
  have by__v13 := by__13.cell1
  have by__w13 := by__13.cell2
  go_wp2_with fail
  have h_14 := h_13.drew
  have k_14 := k_13.drew
  have X0_14 := X0_13.drew
  have Y0_14 := Y0_13.drew
  have ba_14 := ba_13.drew
  have bb_14 := bb_13.drew
  have bx_14 := bx_13.drew
  have by__14 := by__13.drew
  have F14 := F13.drew
  go_region_held3 (fun w' => w'.cell? ⟨w.heap.size, 0, none⟩ = some (.bool s) ∧ w'.cell? ⟨w.heap.size, 1, none⟩ = some (.slice A n c) ∧ w'.cell? ⟨w.heap.size, 2, none⟩ = some (.slice B m d) ∧ w'.cell? ⟨w.heap.size + 1, 0, none⟩ = some (.bool t) ∧ w'.cell? ⟨w.heap.size + 1, 1, none⟩ = some (.slice A' n' c') ∧ w'.cell? ⟨w.heap.size + 1, 2, none⟩ = some (.slice B' m' d') ∧ w'.cell? ⟨w6.heap.size, 0, none⟩ = some (.bool s6) ∧ w'.cell? ⟨w6.heap.size, 1, none⟩ = some (.slice A6 n6 c6) ∧ w'.cell? ⟨w6.heap.size, 2, none⟩ = some (.slice B6 m6 d6) ∧ w'.cell? ⟨w10.heap.size, 0, none⟩ = some (.bool s10) ∧ w'.cell? ⟨w10.heap.size, 1, none⟩ = some (.slice A10 n10 c10) ∧ w'.cell? ⟨w10.heap.size, 2, none⟩ = some (.slice B10 m10 d10))
    (first
      | with_reducible exact ⟨ba_16.cell0, ba_16.cell1, ba_16.cell2, bb_16.cell0, bb_16.cell1, bb_16.cell2, bx_16.cell0, bx_16.cell1, bx_16.cell2, by__16.cell0, by__16.cell1, by__16.cell2⟩
      | with_reducible exact ⟨ba_15.cell0, ba_15.cell1, ba_15.cell2, bb_15.cell0, bb_15.cell1, bb_15.cell2, bx_15.cell0, bx_15.cell1, bx_15.cell2, by__15.cell0, by__15.cell1, by__15.cell2⟩
      | with_reducible exact ⟨ba_14.cell0, ba_14.cell1, ba_14.cell2, bb_14.cell0, bb_14.cell1, bb_14.cell2, bx_14.cell0, bx_14.cell1, bx_14.cell2, by__14.cell0, by__14.cell1, by__14.cell2⟩
      | fail)
    (first
      | (go_at_call 24; (with_reducible refine (rden_q _ _ _ _ _ _ _ _ L1 _ HL1.out Y0_14.iq ly6.1 ly6.2 3 a3 sy2).mono ?_); rintro e w15 ⟨A15, c15, rfl, d1_, b15⟩; have h_15 := h_14.below b15; have k_15 := k_14.below b15; have X0_15 := X0_14.below b15; have Y0_15 := Y0_14.below b15; have ba_15 := ba_14.below b15 ba_14.lt; have bb_15 := bb_14.below b15 bb_14.lt; have bx_15 := bx_14.below b15 bx_14.lt; have by__15 := by__14.below b15 by__14.lt; have F15 := below_then F14 (Nat.le_refl _) b15)
      | (go_at_call 24; (with_reducible refine (rden_q _ _ _ _ _ _ _ _ L2 _ HL2.out X0_15.iq lx6.1 lx6.2 4 a4 sx2).mono ?_); rintro e w16 ⟨A16, c16, rfl, d2_, b16⟩; have h_16 := h_15.below b16; have k_16 := k_15.below b16; have X0_16 := X0_15.below b16; have Y0_16 := Y0_15.below b16; have d1__16 := d1_.below b16; have ba_16 := ba_15.below b16 ba_15.lt; have bb_16 := bb_15.below b16 bb_15.lt; have bx_16 := bx_15.below b16 bx_15.lt; have by__16 := by__15.below b16 by__15.lt; have F16 := below_then F15 (Nat.le_refl _) b16)
      | (go_at_call 51; (with_reducible refine (rcmp_at _ _ _ _ _ _ _ _ _ _ HC.out d1__16 d2_ lL1 lL2).mono ?_); rintro e w' ⟨rfl, rfl⟩)
      | fail)
  have ba_u16 := ba_16.cell0
  have ba_v16 := ba_16.cell1
  have ba_w16 := ba_16.cell2
  have bb_u16 := bb_16.cell0
  have bb_v16 := bb_16.cell1
  have bb_w16 := bb_16.cell2
  have bx_u16 := bx_16.cell0
  have bx_v16 := bx_16.cell1
  have bx_w16 := bx_16.cell2
  have by__u16 := by__16.cell0
  have by__v16 := by__16.cell1
  have by__w16 := by__16.cell2
  go_wp2
  go_ret
  exact ⟨rfl, F16⟩
set_option maxHeartbeats 2000000 in
theorem lsim_in_eq (s t : Bool) (A B A' B' : Option Addr) (n c m d n' c' m' d' : Nat) (v : Nat) (p q : Rat) (w : World) (hv : v < 65536) (h : Iq w s A n c B m d p) (k : Iq w t A' n' c' B' m' d' q) (h1 : n ≤ 3 ∧ m ≤ 3) (h2 : n' ≤ 3 ∧ m' ≤ 3) (x : Rat) (hx : (((v : Int) / 256 - 128 : Int) : Rat) / (((v : Int) % 50 + 1 : Int) : Rat) = x) (hp : p ≤ x) (hq : x ≤ q) (y : Rat) (hy : smp p q = y) (hd : y.den = x.den) :
    Calls Try.prog 10 #[.agg #[.bool s, .slice A n c, .slice B m d], .agg #[.bool t, .slice A' n' c', .slice B' m' d'], .int .u16 (v : Int)] w fun e w' => e = .returned (.bool true) ∧ Below w.heap.size w w' := by
  have hf1 := hide (decide_eq_true h1)
  have hf2 := hide (decide_eq_true h2)
  have la : n ≤ 4000 ∧ m ≤ 4000 := by omega
  have lb : n' ≤ 4000 ∧ m' ≤ 4000 := by omega
  have two : pw 2 = 18446744073709551616 := by decide
  have si : ∀ z : Int, z.natAbs < pw 2 → Qs 2 (z : Rat) := fun z hz => ⟨by simpa using hz, Nat.lt_of_lt_of_le (by simpa using (by decide : 1 < pw 1)) (pw_mono (by omega))⟩
  have sx : Qs 4 x := by rw [← hx]; exact size_div (si _ (by omega)) (si _ (by omega)) (by omega)
  have sp : Qs 3 p := h.size h1.1 h1.2 (by omega)
  have HX := hide hx
  obtain ⟨r1, hr1⟩ : ∃ r, sz (p - x).num = r := ⟨_, rfl⟩
  obtain ⟨r2, hr2⟩ : ∃ r, sz (x - q).num = r := ⟨_, rfl⟩
  have HR1 := hide hr1
  have HR2 := hide hr2
  have d1 : decide (0 < r1) = false := by rw [← hr1]; exact decide_eq_false (ngt_of hp)
  have d2 : decide (0 < r2) = false := by rw [← hr2]; exact decide_eq_false (ngt_of hq)
  have hpq : p ≤ q := Rat.le_trans hp hq
  obtain ⟨y1, y2, y3⟩ := smp_simple p q hpq
  rw [hy] at y1 y2 y3
  obtain ⟨yx1, yx2⟩ := y3 x hp hq
  obtain ⟨yp1, yp2⟩ := y3 p Rat.le_refl hpq
  have sy : Qs 3 y := ⟨Nat.lt_of_le_of_lt yp2 sp.1, Nat.lt_of_le_of_lt yp1 sp.2⟩
  obtain ⟨r3, hr3⟩ : ∃ r, sz (p - y).num = r := ⟨_, rfl⟩
  obtain ⟨r4, hr4⟩ : ∃ r, sz (y - q).num = r := ⟨_, rfl⟩
  have d3 : decide (0 < r3) = false := by rw [← hr3]; exact decide_eq_false (ngt_of y1)
  have d4 : decide (0 < r4) = false := by rw [← hr4]; exact decide_eq_false (ngt_of y2)
  have HR3 := hide hr3
  have HR4 := hide hr4
  have HY := hide hy
  have HPQ := hide hpq
  have n3 : n ≤ 3 := h1.1
  have m3 : m ≤ 3 := h1.2
  have n3' : n' ≤ 3 := h2.1
  have m3' : m' ≤ 3 := h2.2
  have k3 : 3 ≤ 1000 := by omega
  have k1 : 1 ≤ 3 := by omega
  have a3 : 3 ≤ 16384 := by omega
  have a4 : 4 ≤ 16384 := by omega
  have sy2 : y.den < pw 3 := sy.2
  have sx2 : x.den < pw 4 := sx.2
  obtain ⟨L1, hL1⟩ : ∃ L, (dg y.den).length = L := ⟨_, rfl⟩
  obtain ⟨L2, hL2⟩ : ∃ L, (dg x.den).length = L := ⟨_, rfl⟩
  have lL1 : L1 ≤ 1048576 := by rw [← hL1]; exact Nat.le_trans (dg_le sy.2) (by omega)
  have lL2 : L2 ≤ 1048576 := by rw [← hL2]; exact Nat.le_trans (dg_le sx.2) (by omega)
  have HL1 := hide hL1
  have HL2 := hide hL2
  have HC := hide (show sg (val (dg y.den)) (val (dg x.den)) = 0 by rw [val_dg, val_dg]; exact sg_eq hd)
  obtain ⟨r5, hr5⟩ : ∃ r, sg (val (dg y.num.natAbs)) (val (dg x.num.natAbs)) = r := ⟨_, rfl⟩
  have d5 : decide (r5 ≤ 0) = true := by rw [← hr5, val_dg, val_dg]; exact decide_eq_true (sg_le.2 yx2)
  have HR5 := hide hr5
  clear hr5
  clear hx hr1 hr2 hr3 hr4 hp hq h1 h2 hy hpq y1 y2 y3 yx1 yx2 yp1 yp2 hd hL1 hL2
  have h_1 := h.alloc (EQ s A n c B m d)
  have k_1 := k.alloc (EQ s A n c B m d)
  have ba_1 : Sq ((w).alloc (EQ s A n c B m d)) (w.heap.size) (.bool s) (.slice A n c) (.slice B m d) := by have h_ := Sq.new (w) (.bool s) (.slice A n c) (.slice B m d); exact h_
  have F1 := (Below.refl w.heap.size w).alloc (Nat.le_refl _) (EQ s A n c B m d)
  have h_2 := h_1.alloc (EQ t A' n' c' B' m' d')
  have k_2 := k_1.alloc (EQ t A' n' c' B' m' d')
  have ba_2 := ba_1.alloc (EQ t A' n' c' B' m' d')
  have bb_2 : Sq (((w).alloc (EQ s A n c B m d)).alloc (EQ t A' n' c' B' m' d')) (w.heap.size + 1) (.bool t) (.slice A' n' c') (.slice B' m' d') := by have h_ := Sq.new ((w).alloc (EQ s A n c B m d)) (.bool t) (.slice A' n' c') (.slice B' m' d'); simp only [World.size_alloc] at h_; exact h_
  have F2 := F1.alloc F1.size (EQ t A' n' c' B' m' d')
  go_enter Try.func10, Try.ntmps10
  go_wp2_with fail
  refine (awake_q _).mono ?_
  rintro e w3 ⟨rfl, b3⟩
  have h_3 := h_2.below b3
  have k_3 := k_2.below b3
  have ba_3 := ba_2.below b3 ba_2.lt
  have bb_3 := bb_2.below b3 bb_2.lt
  have F3 := below_then F2 (Nat.le_refl _) b3
  have ba_u3 := ba_3.cell0
  have ba_v3 := ba_3.cell1
  have ba_w3 := ba_3.cell2
  have bb_u3 := bb_3.cell0
  have bb_v3 := bb_3.cell1
  have bb_w3 := bb_3.cell2
  go_wp2_with fail
  refine (few_q _ _ _ _ _ _ _ _ _ hf1.out).mono ?_
  rintro e w4 ⟨rfl, b4⟩
  have h_4 := h_3.below b4
  have k_4 := k_3.below b4
  have ba_4 := ba_3.below b4 ba_3.lt
  have bb_4 := bb_3.below b4 bb_3.lt
  have F4 := below_then F3 (Nat.le_refl _) b4
  have ba_u4 := ba_4.cell0
  have ba_v4 := ba_4.cell1
  have ba_w4 := ba_4.cell2
  have bb_u4 := bb_4.cell0
  have bb_v4 := bb_4.cell1
  have bb_w4 := bb_4.cell2
  go_wp2_with fail
  refine (few_q _ _ _ _ _ _ _ _ _ hf2.out).mono ?_
  rintro e w5 ⟨rfl, b5⟩
  have h_5 := h_4.below b5
  have k_5 := k_4.below b5
  have ba_5 := ba_4.below b5 ba_4.lt
  have bb_5 := bb_4.below b5 bb_4.lt
  have F5 := below_then F4 (Nat.le_refl _) b5
  have ba_u5 := ba_5.cell0
  have ba_v5 := ba_5.cell1
  have ba_w5 := ba_5.cell2
  have bb_u5 := bb_5.cell0
  have bb_v5 := bb_5.cell1
  have bb_w5 := bb_5.cell2
  go_wp2_with fail
  refine (lfrac_at _ _ ((v : Int) / 256 - 128) ((v : Int) % 50 + 1) x _ (by omega) (by omega) HX.out (by omega) (by omega) (by omega)).mono ?_
  rintro e w6 ⟨s6, A6, n6, c6, B6, m6, d6, rfl, X0, b6⟩
  have h_6 := h_5.below b6
  have k_6 := k_5.below b6
  have ba_6 := ba_5.below b6 ba_5.lt
  have bb_6 := bb_5.below b6 bb_5.lt
  have F6 := below_then F5 (Nat.le_refl _) b6
  have ba_u6 := ba_6.cell0
  have ba_v6 := ba_6.cell1
  have ba_w6 := ba_6.cell2
  have bb_u6 := bb_6.cell0
  have bb_v6 := bb_6.cell1
  have bb_w6 := bb_6.cell2
  have lt_bx_ba := ba_6.lt
  have lt_bx_bb := bb_6.lt
  have h_7 := h_6.alloc (EQ s6 A6 n6 c6 B6 m6 d6)
  have k_7 := k_6.alloc (EQ s6 A6 n6 c6 B6 m6 d6)
  have X0_7 := X0.alloc (EQ s6 A6 n6 c6 B6 m6 d6)
  have ba_7 := ba_6.alloc (EQ s6 A6 n6 c6 B6 m6 d6)
  have bb_7 := bb_6.alloc (EQ s6 A6 n6 c6 B6 m6 d6)
  have bx_7 : Sq ((w6).alloc (EQ s6 A6 n6 c6 B6 m6 d6)) (w6.heap.size) (.bool s6) (.slice A6 n6 c6) (.slice B6 m6 d6) := by have h_ := Sq.new (w6) (.bool s6) (.slice A6 n6 c6) (.slice B6 m6 d6); exact h_
  have F7 := F6.alloc F6.size (EQ s6 A6 n6 c6 B6 m6 d6)
  have lx := X0_7.small sx (by omega)
  have xi := X0_7.iq
  have ba_u7 := ba_7.cell0
  have ba_v7 := ba_7.cell1
  have ba_w7 := ba_7.cell2
  have bb_u7 := bb_7.cell0
  have bb_v7 := bb_7.cell1
  have bb_w7 := bb_7.cell2
  have bx_u7 := bx_7.cell0
  have bx_v7 := bx_7.cell1
  have bx_w7 := bx_7.cell2
  go_wp2_with fail
  refine (rcmp_q _ _ _ _ _ _ _ _ _ _ _ _ _ _ _ _ _ _ HR1.out h_7 X0_7.iq la.1 la.2 lx.1 lx.2).mono ?_
  rintro e w8 ⟨rfl, b8⟩
  have h_8 := h_7.below b8
  have k_8 := k_7.below b8
  have X0_8 := X0_7.below b8
  have ba_8 := ba_7.below b8 ba_7.lt
  have bb_8 := bb_7.below b8 bb_7.lt
  have bx_8 := bx_7.below b8 bx_7.lt
  have F8 := below_then F7 (Nat.le_refl _) b8
  have ba_u8 := ba_8.cell0
  have ba_v8 := ba_8.cell1
  have ba_w8 := ba_8.cell2
  have bb_u8 := bb_8.cell0
  have bb_v8 := bb_8.cell1
  have bb_w8 := bb_8.cell2
  have bx_u8 := bx_8.cell0
  have bx_v8 := bx_8.cell1
  have bx_w8 := bx_8.cell2
  go_wp2_with fail
  refine (rcmp_q _ _ _ _ _ _ _ _ _ _ _ _ _ _ _ _ _ _ HR2.out X0_8.iq k_8 lx.1 lx.2 lb.1 lb.2).mono ?_
  rintro e w9 ⟨rfl, b9⟩
  have h_9 := h_8.below b9
  have k_9 := k_8.below b9
  have X0_9 := X0_8.below b9
  have ba_9 := ba_8.below b9 ba_8.lt
  have bb_9 := bb_8.below b9 bb_8.lt
  have bx_9 := bx_8.below b9 bx_8.lt
  have F9 := below_then F8 (Nat.le_refl _) b9
  have ba_u9 := ba_9.cell0
  have ba_v9 := ba_9.cell1
  have ba_w9 := ba_9.cell2
  have bb_u9 := bb_9.cell0
  have bb_v9 := bb_9.cell1
  have bb_w9 := bb_9.cell2
  have bx_u9 := bx_9.cell0
  have bx_v9 := bx_9.cell1
  have bx_w9 := bx_9.cell2
  go_wp2_with fail
  refine (simplest_q _ _ _ _ _ _ _ _ _ _ _ _ _ _ _ _ _ 3 k3 k1 h_9 k_9 n3 m3 n3' m3' HPQ.out).mono ?_
  rintro e w10 ⟨s10, A10, n10, c10, B10, m10, d10, rfl, Y0, b10⟩
  have h_10 := h_9.below b10
  have k_10 := k_9.below b10
  have X0_10 := X0_9.below b10
  have ba_10 := ba_9.below b10 ba_9.lt
  have bb_10 := bb_9.below b10 bb_9.lt
  have bx_10 := bx_9.below b10 bx_9.lt
  have F10 := below_then F9 (Nat.le_refl _) b10
  have ba_u10 := ba_10.cell0
  have ba_v10 := ba_10.cell1
  have ba_w10 := ba_10.cell2
  have bb_u10 := bb_10.cell0
  have bb_v10 := bb_10.cell1
  have bb_w10 := bb_10.cell2
  have bx_u10 := bx_10.cell0
  have bx_v10 := bx_10.cell1
  have bx_w10 := bx_10.cell2
  have Y0_ok := Y0.to HY.out
  have lt_by__ba := ba_10.lt
  have lt_by__bb := bb_10.lt
  have lt_by__bx := bx_10.lt
  have h_11 := h_10.alloc (EQ s10 A10 n10 c10 B10 m10 d10)
  have k_11 := k_10.alloc (EQ s10 A10 n10 c10 B10 m10 d10)
  have X0_11 := X0_10.alloc (EQ s10 A10 n10 c10 B10 m10 d10)
  have Y0_11 := Y0_ok.alloc (EQ s10 A10 n10 c10 B10 m10 d10)
  have ba_11 := ba_10.alloc (EQ s10 A10 n10 c10 B10 m10 d10)
  have bb_11 := bb_10.alloc (EQ s10 A10 n10 c10 B10 m10 d10)
  have bx_11 := bx_10.alloc (EQ s10 A10 n10 c10 B10 m10 d10)
  have by__11 : Sq ((w10).alloc (EQ s10 A10 n10 c10 B10 m10 d10)) (w10.heap.size) (.bool s10) (.slice A10 n10 c10) (.slice B10 m10 d10) := by have h_ := Sq.new (w10) (.bool s10) (.slice A10 n10 c10) (.slice B10 m10 d10); exact h_
  have F11 := F10.alloc F10.size (EQ s10 A10 n10 c10 B10 m10 d10)
  have ly := Y0_11.small sy (by omega)
  have ly6 := Y0_11.tiny6 sy a3
  have lx6 := X0_11.tiny6 sx a4
  have ba_u11 := ba_11.cell0
  have ba_v11 := ba_11.cell1
  have ba_w11 := ba_11.cell2
  have bb_u11 := bb_11.cell0
  have bb_v11 := bb_11.cell1
  have bb_w11 := bb_11.cell2
  have bx_u11 := bx_11.cell0
  have bx_v11 := bx_11.cell1
  have bx_w11 := bx_11.cell2
  have by__u11 := by__11.cell0
  have by__v11 := by__11.cell1
  have by__w11 := by__11.cell2
  go_wp2_with fail
  refine (rcmp_q _ _ _ _ _ _ _ _ _ _ _ _ _ _ _ _ _ _ HR3.out h_11 Y0_11.iq la.1 la.2 ly.1 ly.2).mono ?_
  rintro e w12 ⟨rfl, b12⟩
  have h_12 := h_11.below b12
  have k_12 := k_11.below b12
  have X0_12 := X0_11.below b12
  have Y0_12 := Y0_11.below b12
  have ba_12 := ba_11.below b12 ba_11.lt
  have bb_12 := bb_11.below b12 bb_11.lt
  have bx_12 := bx_11.below b12 bx_11.lt
  have by__12 := by__11.below b12 by__11.lt
  have F12 := below_then F11 (Nat.le_refl _) b12
  have ba_u12 := ba_12.cell0
  have ba_v12 := ba_12.cell1
  have ba_w12 := ba_12.cell2
  have bb_u12 := bb_12.cell0
  have bb_v12 := bb_12.cell1
  have bb_w12 := bb_12.cell2
  have bx_u12 := bx_12.cell0
  have bx_v12 := bx_12.cell1
  have bx_w12 := bx_12.cell2
  have by__u12 := by__12.cell0
  have by__v12 := by__12.cell1
  have by__w12 := by__12.cell2
  go_wp2_with fail
  refine (rcmp_q _ _ _ _ _ _ _ _ _ _ _ _ _ _ _ _ _ _ HR4.out Y0_12.iq k_12 ly.1 ly.2 lb.1 lb.2).mono ?_
  rintro e w13 ⟨rfl, b13⟩
  have h_13 := h_12.below b13
  have k_13 := k_12.below b13
  have X0_13 := X0_12.below b13
  have Y0_13 := Y0_12.below b13
  have ba_13 := ba_12.below b13 ba_12.lt
  have bb_13 := bb_12.below b13 bb_12.lt
  have bx_13 := bx_12.below b13 bx_12.lt
  have by__13 := by__12.below b13 by__12.lt
  have F13 := below_then F12 (Nat.le_refl _) b13
  have ba_u13 := ba_13.cell0
  have ba_v13 := ba_13.cell1
  have ba_w13 := ba_13.cell2
  have bb_u13 := bb_13.cell0
  have bb_v13 := bb_13.cell1
  have bb_w13 := bb_13.cell2
  have bx_u13 := bx_13.cell0
  have bx_v13 := bx_13.cell1
  have bx_w13 := bx_13.cell2
  have by__u13 := by__13.cell0
  have by__v13 := by__13.cell1
  have by__w13 := by__13.cell2
  go_wp2_with fail
  have h_14 := h_13.drew
  have k_14 := k_13.drew
  have X0_14 := X0_13.drew
  have Y0_14 := Y0_13.drew
  have ba_14 := ba_13.drew
  have bb_14 := bb_13.drew
  have bx_14 := bx_13.drew
  have by__14 := by__13.drew
  have F14 := F13.drew
  go_region_held3 (fun w' => w'.cell? ⟨w.heap.size, 0, none⟩ = some (.bool s) ∧ w'.cell? ⟨w.heap.size, 1, none⟩ = some (.slice A n c) ∧ w'.cell? ⟨w.heap.size, 2, none⟩ = some (.slice B m d) ∧ w'.cell? ⟨w.heap.size + 1, 0, none⟩ = some (.bool t) ∧ w'.cell? ⟨w.heap.size + 1, 1, none⟩ = some (.slice A' n' c') ∧ w'.cell? ⟨w.heap.size + 1, 2, none⟩ = some (.slice B' m' d') ∧ w'.cell? ⟨w6.heap.size, 0, none⟩ = some (.bool s6) ∧ w'.cell? ⟨w6.heap.size, 1, none⟩ = some (.slice A6 n6 c6) ∧ w'.cell? ⟨w6.heap.size, 2, none⟩ = some (.slice B6 m6 d6) ∧ w'.cell? ⟨w10.heap.size, 0, none⟩ = some (.bool s10) ∧ w'.cell? ⟨w10.heap.size, 1, none⟩ = some (.slice A10 n10 c10) ∧ w'.cell? ⟨w10.heap.size, 2, none⟩ = some (.slice B10 m10 d10))
    (first
      | with_reducible exact ⟨ba_16.cell0, ba_16.cell1, ba_16.cell2, bb_16.cell0, bb_16.cell1, bb_16.cell2, bx_16.cell0, bx_16.cell1, bx_16.cell2, by__16.cell0, by__16.cell1, by__16.cell2⟩
      | with_reducible exact ⟨ba_15.cell0, ba_15.cell1, ba_15.cell2, bb_15.cell0, bb_15.cell1, bb_15.cell2, bx_15.cell0, bx_15.cell1, bx_15.cell2, by__15.cell0, by__15.cell1, by__15.cell2⟩
      | with_reducible exact ⟨ba_14.cell0, ba_14.cell1, ba_14.cell2, bb_14.cell0, bb_14.cell1, bb_14.cell2, bx_14.cell0, bx_14.cell1, bx_14.cell2, by__14.cell0, by__14.cell1, by__14.cell2⟩
      | fail)
    (first
      | (go_at_call 24; (with_reducible refine (rden_q _ _ _ _ _ _ _ _ L1 _ HL1.out Y0_14.iq ly6.1 ly6.2 3 a3 sy2).mono ?_); rintro e w15 ⟨A15, c15, rfl, d1_, b15⟩; have h_15 := h_14.below b15; have k_15 := k_14.below b15; have X0_15 := X0_14.below b15; have Y0_15 := Y0_14.below b15; have ba_15 := ba_14.below b15 ba_14.lt; have bb_15 := bb_14.below b15 bb_14.lt; have bx_15 := bx_14.below b15 bx_14.lt; have by__15 := by__14.below b15 by__14.lt; have F15 := below_then F14 (Nat.le_refl _) b15)
      | (go_at_call 24; (with_reducible refine (rden_q _ _ _ _ _ _ _ _ L2 _ HL2.out X0_15.iq lx6.1 lx6.2 4 a4 sx2).mono ?_); rintro e w16 ⟨A16, c16, rfl, d2_, b16⟩; have h_16 := h_15.below b16; have k_16 := k_15.below b16; have X0_16 := X0_15.below b16; have Y0_16 := Y0_15.below b16; have d1__16 := d1_.below b16; have ba_16 := ba_15.below b16 ba_15.lt; have bb_16 := bb_15.below b16 bb_15.lt; have bx_16 := bx_15.below b16 bx_15.lt; have by__16 := by__15.below b16 by__15.lt; have F16 := below_then F15 (Nat.le_refl _) b16)
      | (go_at_call 51; (with_reducible refine (rcmp_at _ _ _ _ _ _ _ _ _ _ HC.out d1__16 d2_ lL1 lL2).mono ?_); rintro e w' ⟨rfl, rfl⟩)
      | fail)
  have ba_u16 := ba_16.cell0
  have ba_v16 := ba_16.cell1
  have ba_w16 := ba_16.cell2
  have bb_u16 := bb_16.cell0
  have bb_v16 := bb_16.cell1
  have bb_w16 := bb_16.cell2
  have bx_u16 := bx_16.cell0
  have bx_v16 := bx_16.cell1
  have bx_w16 := bx_16.cell2
  have by__u16 := by__16.cell0
  have by__v16 := by__16.cell1
  have by__w16 := by__16.cell2
  have ly2 := Nat.le_trans ly6.1 (show 16384 ≤ 1048576 by omega)
  have lx2 := Nat.le_trans lx6.1 (show 16384 ≤ 1048576 by omega)
  go_wp2_with fail
  refine (rcmp_at _ _ _ _ _ _ _ _ _ _ HR5.out Y0_16.rn X0_16.rn ly2 lx2).mono ?_
  rintro e w' ⟨rfl, rfl⟩
  go_wp2
  go_ret
  exact ⟨rfl, F16⟩
end Go.Proofs.Ytabgniijlofapaa
