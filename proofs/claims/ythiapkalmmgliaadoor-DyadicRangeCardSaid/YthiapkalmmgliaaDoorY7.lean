/-
  The walk of DyadicRange.
-/
import Derived.Test.YthiapkalmmgliaaDoorY1
namespace Go.Proofs.YthiapkalmmgliaaDoor
open Go.RowKit
set_option linter.unusedVariables false
set_option linter.unusedSimpArgs false

theorem mul_num {p q : Rat} (hp : Isd p) (hq : Isd q) : p * q = dvl (!(decide (p < 0)) == decide (q < 0)) (dm p * dm q) (de p + de q) := by
  rw [dvl_mul, dvl_of hp, dvl_of hq]
theorem tw_pw {m k : Nat} (h : m < pw k) (h0 : m ≠ 0) : tw m < 32 * k := tw_lt (by rw [← pw_pow]; exact h) h0
theorem mul_facts {p q : Rat} (hp : Isd p) (hq : Isd q) (hX : dm p < pw 3) (hY : dm q < pw 3) (h1 : de p ≤ 1048576) (h2 : de q ≤ 1048576) : dm (p * q) < pw 6 ∧ de (p * q) ≤ 1000000000 := by
  by_cases h0 : dm p * dm q = 0
  · have e : p * q = 0 := by rw [mul_num hp hq, h0, dvl_zero]
    rw [e, dmq_zero, de_zero]
    exact ⟨by decide, by decide⟩
  · have hm : dm p * dm q < pw (3 + 3) := mul_pw hX hY
    obtain ⟨_, p2, p3, _⟩ := dvl_parts (!(decide (p < 0)) == decide (q < 0)) (dm p * dm q) (de p + de q) h0
    rw [← mul_num hp hq] at p2 p3
    have h4 := tw_pw hm h0
    rw [p2, p3]
    exact ⟨Nat.lt_of_le_of_lt (odp_le _) hm, by omega⟩
theorem add_num {p : Rat} (hp : Isd p) : p + p = dvl (decide (p < 0)) (dm p * 2) (de p) := by
  have h : dvl (decide (p < 0)) (dm p * 2) (de p) = dvl (decide (p < 0)) (dm p) (de p) + dvl (decide (p < 0)) (dm p) (de p) := by
    unfold dvl
    rw [← Rat.add_mul, ← Rat.intCast_add]
    congr 2
    split <;> omega
  rw [h, dvl_of hp]
theorem add_facts {p : Rat} (hp : Isd p) (hX : dm p < pw 3) (h1 : de p ≤ 1048576) : dm (p + p) < pw 6 ∧ de (p + p) ≤ 1000000000 := by
  by_cases h0 : dm p * 2 = 0
  · have e : p + p = 0 := by rw [add_num hp, h0, dvl_zero]
    rw [e, dmq_zero, de_zero]
    exact ⟨by decide, by decide⟩
  · have hm : dm p * 2 < pw (3 + 3) := by
      have h3 : pw 4 ≤ pw (3 + 3) := pw_mono (by decide)
      have h4 : pw 4 = 4294967296 * pw 3 := rfl
      omega
    obtain ⟨_, p2, p3, _⟩ := dvl_parts (decide (p < 0)) (dm p * 2) (de p) h0
    rw [← add_num hp] at p2 p3
    have h4 := tw_pw hm h0
    rw [p2, p3]
    exact ⟨Nat.lt_of_le_of_lt (odp_le _) hm, by omega⟩
theorem out_range {q : Rat} (h : ¬ (-1048576 ≤ de q ∧ de q ≤ 1048576)) : q ≠ 0 ∧ (de q < -1048576 ∨ 1048576 < de q) := by
  refine ⟨fun h0 => h ?_, by omega⟩
  rw [h0, de_zero]
  omega
/-- What Mul answers in both. -/
theorem mul_two (s : Bool) (A : Option Addr) (n c : Nat) (e : Int) (t : Bool) (B : Option Addr) (m d : Nat) (x : Int) (p q : Rat) (hp : Isd p) (hq : Isd q) (e1 : e = de p) (x1 : x = de q) (hX : dm p < pw 3) (hY : dm q < pw 3) (hn : n ≤ 3) (hm : m ≤ 3) (he : -1048576 ≤ e ∧ e ≤ 1048576) (hx : -1048576 ≤ x ∧ x ≤ 1048576) :
    ∃ (v : Rat) (r : Int), dm v < pw 6 ∧ (∀ W, Cy W s A n c e p → Cy W t B m d x q → Tb W → Calls Tryd.prog 36 #[.agg #[.bool s, .slice A n c, .int .i64 e], .agg #[.bool t, .slice B m d, .int .i64 x]] W (GDE W v r)) ∧ (∀ W, Cy W s A n c e p → Cy W t B m d x q → Calls Tryd.prog 39 #[.agg #[.bool s, .slice A n c, .int .i64 e], .agg #[.bool t, .slice B m d, .int .i64 x]] W (GDE W v r)) := by
  obtain ⟨h1, h2⟩ := mul_facts hp hq hX hY (by omega) (by omega)
  by_cases hr : -1048576 ≤ de (p * q) ∧ de (p * q) ≤ 1048576
  · exact ⟨p * q, 0, h1, fun W h k T => ymul_q s A n c e t B m d x p q W h k hn hm he hx hr T, fun W h k => rymul_ok s t A B n m c d e x p q W h k (by omega) (by omega) (by omega) (by omega) hr⟩
  · obtain ⟨h3, h4⟩ := out_range hr
    exact ⟨0, 2, by rw [dmq_zero]; decide, fun W h k T => ymul_b s A n c e t B m d x p q W h k hn hm he hx h3 h4 h2 T, fun W h k => rymul_bad s t A B n m c d e x p q W h k (by omega) (by omega) (by omega) (by omega) h3 h4 h2⟩
theorem add_two (s : Bool) (A : Option Addr) (n c : Nat) (e : Int) (p : Rat) (hp : Isd p) (e1 : e = de p) (hX : dm p < pw 3) (hn : n ≤ 3) (he : -1048576 ≤ e ∧ e ≤ 1048576) :
    ∃ (v : Rat) (r : Int), dm v < pw 6 ∧ (∀ W, Cy W s A n c e p → Tb W → Calls Tryd.prog 35 #[.agg #[.bool s, .slice A n c, .int .i64 e], .agg #[.bool s, .slice A n c, .int .i64 e]] W (GDE W v r)) ∧ (∀ W, Cy W s A n c e p → Calls Tryd.prog 40 #[.agg #[.bool s, .slice A n c, .int .i64 e], .agg #[.bool s, .slice A n c, .int .i64 e]] W (GDE W v r)) := by
  obtain ⟨h1, h2⟩ := add_facts hp hX (by omega)
  by_cases h0 : p = 0
  · subst h0
    exact ⟨0 + 0, 0, h1, fun W h T => yadd2_q s A n c e 0 W h hn he (by rw [Rat.add_zero, de_zero]; omega) T, fun W h => radd_zero s A n c e s A n c e (0 + 0) W h (by rw [Rat.add_zero]; exact h)⟩
  · by_cases hr : -1048576 ≤ de (p + p) ∧ de (p + p) ≤ 1048576
    · exact ⟨p + p, 0, h1, fun W h T => yadd2_q s A n c e p W h hn he hr T, fun W h => radd_self_ok s A n c e p W h h0 (by omega) he hr⟩
    · obtain ⟨h3, h4⟩ := out_range hr
      exact ⟨0, 2, by rw [dmq_zero]; decide, fun W h T => yadd2_b s A n c e p W h h0 hn he h3 h4 h2 T, fun W h => radd_self_bad s A n c e p W h h0 (by omega) he h3 h4 h2⟩
theorem dg_n (s : Bool) (A : Option Addr) (n c : Nat) (e : Int) (t : Bool) (B : Option Addr) (m d : Nat) (x : Int) (xs ys : List Nat) (w : World) (hx : Rd w A n c xs) (hy : Rd w B m d ys) (hn : ¬ n ≤ 2) (T : Tb w) : Calls Tryd.prog 9 #[.agg #[.bool s, .slice A n c, .int .i64 e], .agg #[.bool t, .slice B m d, .int .i64 x]] w (fun e w' => e = .returned (.bool true) ∧ Below w.heap.size w w') := by
  have d1 : decide (2 < (n : Int)) = true := by simp; omega
  clear hx hy
  have T_1 := T.alloc (EY s A n c e)
  have ba_1 : Sy ((w).alloc (EY s A n c e)) (w.heap.size) (.bool s) (.slice A n c) (.int .i64 e) := by have h_ := Sy.new (w) (.bool s) (.slice A n c) (.int .i64 e); exact h_
  have F1 := (Below.refl w.heap.size w).alloc (Nat.le_refl _) (EY s A n c e)
  have T_2 := T_1.alloc (EY t B m d x)
  have ba_2 := ba_1.alloc (EY t B m d x)
  have bb_2 : Sy (((w).alloc (EY s A n c e)).alloc (EY t B m d x)) (w.heap.size + 1) (.bool t) (.slice B m d) (.int .i64 x) := by have h_ := Sy.new ((w).alloc (EY s A n c e)) (.bool t) (.slice B m d) (.int .i64 x); simp only [World.size_alloc] at h_; exact h_
  have F2 := F1.alloc F1.size (EY t B m d x)
  go_enter Tryd.func9, Tryd.ntmps9
  go_wp2_with fail
  refine (awake5 _ T_2).mono ?_
  rintro e w3 ⟨rfl, b3⟩
  have T_3 := T_2.below b3
  have ba_3 := ba_2.below b3 ba_2.lt
  have bb_3 := bb_2.below b3 bb_2.lt
  have F3 := below_then F2 (Nat.le_refl _) b3
  have ba_u3 := ba_3.cell0
  have ba_v3 := ba_3.cell1
  have ba_w3 := ba_3.cell2
  have bb_u3 := bb_3.cell0
  have bb_v3 := bb_3.cell1
  have bb_w3 := bb_3.cell2
  go_wp2
  go_ret
  exact ⟨rfl, F3⟩
theorem dg_m (s : Bool) (A : Option Addr) (n c : Nat) (e : Int) (t : Bool) (B : Option Addr) (m d : Nat) (x : Int) (xs ys : List Nat) (w : World) (hx : Rd w A n c xs) (hy : Rd w B m d ys) (hn : n ≤ 2) (hm : ¬ m ≤ 2) (T : Tb w) : Calls Tryd.prog 9 #[.agg #[.bool s, .slice A n c, .int .i64 e], .agg #[.bool t, .slice B m d, .int .i64 x]] w (fun e w' => e = .returned (.bool true) ∧ Below w.heap.size w w') := by
  have d1 : decide (2 < (n : Int)) = false := by simp; omega
  have d2 : decide (2 < (m : Int)) = true := by simp; omega
  clear hx hy
  have T_1 := T.alloc (EY s A n c e)
  have ba_1 : Sy ((w).alloc (EY s A n c e)) (w.heap.size) (.bool s) (.slice A n c) (.int .i64 e) := by have h_ := Sy.new (w) (.bool s) (.slice A n c) (.int .i64 e); exact h_
  have F1 := (Below.refl w.heap.size w).alloc (Nat.le_refl _) (EY s A n c e)
  have T_2 := T_1.alloc (EY t B m d x)
  have ba_2 := ba_1.alloc (EY t B m d x)
  have bb_2 : Sy (((w).alloc (EY s A n c e)).alloc (EY t B m d x)) (w.heap.size + 1) (.bool t) (.slice B m d) (.int .i64 x) := by have h_ := Sy.new ((w).alloc (EY s A n c e)) (.bool t) (.slice B m d) (.int .i64 x); simp only [World.size_alloc] at h_; exact h_
  have F2 := F1.alloc F1.size (EY t B m d x)
  go_enter Tryd.func9, Tryd.ntmps9
  go_wp2_with fail
  refine (awake5 _ T_2).mono ?_
  rintro e w3 ⟨rfl, b3⟩
  have T_3 := T_2.below b3
  have ba_3 := ba_2.below b3 ba_2.lt
  have bb_3 := bb_2.below b3 bb_2.lt
  have F3 := below_then F2 (Nat.le_refl _) b3
  have ba_u3 := ba_3.cell0
  have ba_v3 := ba_3.cell1
  have ba_w3 := ba_3.cell2
  have bb_u3 := bb_3.cell0
  have bb_v3 := bb_3.cell1
  have bb_w3 := bb_3.cell2
  go_wp2
  go_ret
  exact ⟨rfl, F3⟩
theorem dg_a (s : Bool) (A : Option Addr) (n c : Nat) (e : Int) (t : Bool) (B : Option Addr) (m d : Nat) (x : Int) (xs ys : List Nat) (w : World) (hx : Rd w A n c xs) (hy : Rd w B m d ys) (hn : n ≤ 2) (hm : m ≤ 2) (hv : vb s xs e = false) (T : Tb w) : Calls Tryd.prog 9 #[.agg #[.bool s, .slice A n c, .int .i64 e], .agg #[.bool t, .slice B m d, .int .i64 x]] w (fun e w' => e = .returned (.bool true) ∧ Below w.heap.size w w') := by
  have d1 : decide (2 < (n : Int)) = false := by simp; omega
  have d2 : decide (2 < (m : Int)) = false := by simp; omega
  have n1 : n ≤ 1048576 := by omega
  clear hy
  have hx_1 := hx.alloc (EY s A n c e)
  have T_1 := T.alloc (EY s A n c e)
  have ba_1 : Sy ((w).alloc (EY s A n c e)) (w.heap.size) (.bool s) (.slice A n c) (.int .i64 e) := by have h_ := Sy.new (w) (.bool s) (.slice A n c) (.int .i64 e); exact h_
  have F1 := (Below.refl w.heap.size w).alloc (Nat.le_refl _) (EY s A n c e)
  have hx_2 := hx_1.alloc (EY t B m d x)
  have T_2 := T_1.alloc (EY t B m d x)
  have ba_2 := ba_1.alloc (EY t B m d x)
  have bb_2 : Sy (((w).alloc (EY s A n c e)).alloc (EY t B m d x)) (w.heap.size + 1) (.bool t) (.slice B m d) (.int .i64 x) := by have h_ := Sy.new ((w).alloc (EY s A n c e)) (.bool t) (.slice B m d) (.int .i64 x); simp only [World.size_alloc] at h_; exact h_
  have F2 := F1.alloc F1.size (EY t B m d x)
  go_enter Tryd.func9, Tryd.ntmps9
  go_wp2_with fail
  refine (awake5 _ T_2).mono ?_
  rintro e w3 ⟨rfl, b3⟩
  have hx_3 := hx_2.below b3
  have T_3 := T_2.below b3
  have ba_3 := ba_2.below b3 ba_2.lt
  have bb_3 := bb_2.below b3 bb_2.lt
  have F3 := below_then F2 (Nat.le_refl _) b3
  have ba_u3 := ba_3.cell0
  have ba_v3 := ba_3.cell1
  have ba_w3 := ba_3.cell2
  have bb_u3 := bb_3.cell0
  have bb_v3 := bb_3.cell1
  have bb_w3 := bb_3.cell2
  go_wp2_with fail
  refine (ryvalid_at _ _ _ _ _ xs false _ hv hx_3 n1).mono ?_
  rintro e w4 ⟨rfl, b4⟩
  have hx_4 := hx_3.below b4
  have T_4 := T_3.below b4
  have ba_4 := ba_3.below b4 ba_3.lt
  have bb_4 := bb_3.below b4 bb_3.lt
  have F4 := below_then F3 (Nat.le_refl _) b4
  have ba_u4 := ba_4.cell0
  have ba_v4 := ba_4.cell1
  have ba_w4 := ba_4.cell2
  have bb_u4 := bb_4.cell0
  have bb_v4 := bb_4.cell1
  have bb_w4 := bb_4.cell2
  go_wp2
  go_ret
  exact ⟨rfl, F4⟩
theorem dg_b (s : Bool) (A : Option Addr) (n c : Nat) (e : Int) (t : Bool) (B : Option Addr) (m d : Nat) (x : Int) (xs ys : List Nat) (w : World) (hx : Rd w A n c xs) (hy : Rd w B m d ys) (hn : n ≤ 2) (hm : m ≤ 2) (hv : vb s xs e = true) (hu : vb t ys x = false) (T : Tb w) : Calls Tryd.prog 9 #[.agg #[.bool s, .slice A n c, .int .i64 e], .agg #[.bool t, .slice B m d, .int .i64 x]] w (fun e w' => e = .returned (.bool true) ∧ Below w.heap.size w w') := by
  have d1 : decide (2 < (n : Int)) = false := by simp; omega
  have d2 : decide (2 < (m : Int)) = false := by simp; omega
  have n1 : n ≤ 1048576 := by omega
  have m1 : m ≤ 1048576 := by omega
  have hx_1 := hx.alloc (EY s A n c e)
  have hy_1 := hy.alloc (EY s A n c e)
  have T_1 := T.alloc (EY s A n c e)
  have ba_1 : Sy ((w).alloc (EY s A n c e)) (w.heap.size) (.bool s) (.slice A n c) (.int .i64 e) := by have h_ := Sy.new (w) (.bool s) (.slice A n c) (.int .i64 e); exact h_
  have F1 := (Below.refl w.heap.size w).alloc (Nat.le_refl _) (EY s A n c e)
  have hx_2 := hx_1.alloc (EY t B m d x)
  have hy_2 := hy_1.alloc (EY t B m d x)
  have T_2 := T_1.alloc (EY t B m d x)
  have ba_2 := ba_1.alloc (EY t B m d x)
  have bb_2 : Sy (((w).alloc (EY s A n c e)).alloc (EY t B m d x)) (w.heap.size + 1) (.bool t) (.slice B m d) (.int .i64 x) := by have h_ := Sy.new ((w).alloc (EY s A n c e)) (.bool t) (.slice B m d) (.int .i64 x); simp only [World.size_alloc] at h_; exact h_
  have F2 := F1.alloc F1.size (EY t B m d x)
  go_enter Tryd.func9, Tryd.ntmps9
  go_wp2_with fail
  refine (awake5 _ T_2).mono ?_
  rintro e w3 ⟨rfl, b3⟩
  have hx_3 := hx_2.below b3
  have hy_3 := hy_2.below b3
  have T_3 := T_2.below b3
  have ba_3 := ba_2.below b3 ba_2.lt
  have bb_3 := bb_2.below b3 bb_2.lt
  have F3 := below_then F2 (Nat.le_refl _) b3
  have ba_u3 := ba_3.cell0
  have ba_v3 := ba_3.cell1
  have ba_w3 := ba_3.cell2
  have bb_u3 := bb_3.cell0
  have bb_v3 := bb_3.cell1
  have bb_w3 := bb_3.cell2
  go_wp2_with fail
  refine (ryvalid_at _ _ _ _ _ xs true _ hv hx_3 n1).mono ?_
  rintro e w4 ⟨rfl, b4⟩
  have hx_4 := hx_3.below b4
  have hy_4 := hy_3.below b4
  have T_4 := T_3.below b4
  have ba_4 := ba_3.below b4 ba_3.lt
  have bb_4 := bb_3.below b4 bb_3.lt
  have F4 := below_then F3 (Nat.le_refl _) b4
  have ba_u4 := ba_4.cell0
  have ba_v4 := ba_4.cell1
  have ba_w4 := ba_4.cell2
  have bb_u4 := bb_4.cell0
  have bb_v4 := bb_4.cell1
  have bb_w4 := bb_4.cell2
  go_wp2_with fail
  refine (ryvalid_at _ _ _ _ _ ys false _ hu hy_4 m1).mono ?_
  rintro e w5 ⟨rfl, b5⟩
  have hy_5 := hy_4.below b5
  have T_5 := T_4.below b5
  have ba_5 := ba_4.below b5 ba_4.lt
  have bb_5 := bb_4.below b5 bb_4.lt
  have F5 := below_then F4 (Nat.le_refl _) b5
  have ba_u5 := ba_5.cell0
  have ba_v5 := ba_5.cell1
  have ba_w5 := ba_5.cell2
  have bb_u5 := bb_5.cell0
  have bb_v5 := bb_5.cell1
  have bb_w5 := bb_5.cell2
  go_wp2
  go_ret
  exact ⟨rfl, F5⟩
theorem dg_yes (s : Bool) (A : Option Addr) (n c : Nat) (e : Int) (t : Bool) (B : Option Addr) (m d : Nat) (x : Int) (xs ys : List Nat) (w : World) (hx : Rd w A n c xs) (hy : Rd w B m d ys) (hn : n ≤ 2) (hm : m ≤ 2) (hv : vb s xs e = true) (hu : vb t ys x = true) (T : Tb w) : Calls Tryd.prog 9 #[.agg #[.bool s, .slice A n c, .int .i64 e], .agg #[.bool t, .slice B m d, .int .i64 x]] w (fun e w' => e = .returned (.bool true) ∧ Below w.heap.size w w') := by
  have d1 : decide (2 < (n : Int)) = false := by simp; omega
  have d2 : decide (2 < (m : Int)) = false := by simp; omega
  have n1 : n ≤ 1048576 := by omega
  have m1 : m ≤ 1048576 := by omega
  obtain ⟨p, hp⟩ : ∃ p, dvl s (val xs) e = p := ⟨_, rfl⟩
  obtain ⟨q, hq⟩ : ∃ q, dvl t (val ys) x = q := ⟨_, rfl⟩
  have h : Cy w s A n c e p ∧ -1048576 ≤ e ∧ e ≤ 1048576 := by rw [← hp]; exact vb_cy hx hv
  have k : Cy w t B m d x q ∧ -1048576 ≤ x ∧ x ≤ 1048576 := by rw [← hq]; exact vb_cy hy hu
  obtain ⟨h, he⟩ := h
  obtain ⟨k, hxx⟩ := k
  have lX : dm p < pw 3 := by have := rd_lt h.1 (show n ≤ 3 by omega); rwa [val_dg] at this
  have lY : dm q < pw 3 := by have := rd_lt k.1 (show m ≤ 3 by omega); rwa [val_dg] at this
  obtain ⟨v, r, hz, M1, M2⟩ := mul_two s A n c e t B m d x p q h.2.2.2 k.2.2.2 h.2.2.1 k.2.2.1 lX lY (by omega) (by omega) he hxx
  obtain ⟨v2, r2, hz2, P1, P2⟩ := add_two s A n c e p h.2.2.2 h.2.2.1 lX (by omega) he
  have HM1 := hide M1
  have HM2 := hide M2
  have HP1 := hide P1
  have HP2 := hide P2
  have x1 : (r == r) = true := by simp
  have x2 : (r2 == r2) = true := by simp
  have k6 : 6 ≤ 1048576 := by omega
  clear M1 M2 P1 P2 hp hq lX lY he hxx
  have hx_1 := hx.alloc (EY s A n c e)
  have hy_1 := hy.alloc (EY s A n c e)
  have h_1 := h.alloc (EY s A n c e)
  have k_1 := k.alloc (EY s A n c e)
  have T_1 := T.alloc (EY s A n c e)
  have ba_1 : Sy ((w).alloc (EY s A n c e)) (w.heap.size) (.bool s) (.slice A n c) (.int .i64 e) := by have h_ := Sy.new (w) (.bool s) (.slice A n c) (.int .i64 e); exact h_
  have F1 := (Below.refl w.heap.size w).alloc (Nat.le_refl _) (EY s A n c e)
  have hx_2 := hx_1.alloc (EY t B m d x)
  have hy_2 := hy_1.alloc (EY t B m d x)
  have h_2 := h_1.alloc (EY t B m d x)
  have k_2 := k_1.alloc (EY t B m d x)
  have T_2 := T_1.alloc (EY t B m d x)
  have ba_2 := ba_1.alloc (EY t B m d x)
  have bb_2 : Sy (((w).alloc (EY s A n c e)).alloc (EY t B m d x)) (w.heap.size + 1) (.bool t) (.slice B m d) (.int .i64 x) := by have h_ := Sy.new ((w).alloc (EY s A n c e)) (.bool t) (.slice B m d) (.int .i64 x); simp only [World.size_alloc] at h_; exact h_
  have F2 := F1.alloc F1.size (EY t B m d x)
  go_enter Tryd.func9, Tryd.ntmps9
  go_wp2_with fail
  refine (awake5 _ T_2).mono ?_
  rintro e w3 ⟨rfl, b3⟩
  have hx_3 := hx_2.below b3
  have hy_3 := hy_2.below b3
  have h_3 := h_2.below b3
  have k_3 := k_2.below b3
  have T_3 := T_2.below b3
  have ba_3 := ba_2.below b3 ba_2.lt
  have bb_3 := bb_2.below b3 bb_2.lt
  have F3 := below_then F2 (Nat.le_refl _) b3
  have ba_u3 := ba_3.cell0
  have ba_v3 := ba_3.cell1
  have ba_w3 := ba_3.cell2
  have bb_u3 := bb_3.cell0
  have bb_v3 := bb_3.cell1
  have bb_w3 := bb_3.cell2
  go_wp2_with fail
  refine (ryvalid_at _ _ _ _ _ xs true _ hv hx_3 n1).mono ?_
  rintro e w4 ⟨rfl, b4⟩
  have hx_4 := hx_3.below b4
  have hy_4 := hy_3.below b4
  have h_4 := h_3.below b4
  have k_4 := k_3.below b4
  have T_4 := T_3.below b4
  have ba_4 := ba_3.below b4 ba_3.lt
  have bb_4 := bb_3.below b4 bb_3.lt
  have F4 := below_then F3 (Nat.le_refl _) b4
  have ba_u4 := ba_4.cell0
  have ba_v4 := ba_4.cell1
  have ba_w4 := ba_4.cell2
  have bb_u4 := bb_4.cell0
  have bb_v4 := bb_4.cell1
  have bb_w4 := bb_4.cell2
  go_wp2_with fail
  refine (ryvalid_at _ _ _ _ _ ys true _ hu hy_4 m1).mono ?_
  rintro e w5 ⟨rfl, b5⟩
  have hy_5 := hy_4.below b5
  have h_5 := h_4.below b5
  have k_5 := k_4.below b5
  have T_5 := T_4.below b5
  have ba_5 := ba_4.below b5 ba_4.lt
  have bb_5 := bb_4.below b5 bb_4.lt
  have F5 := below_then F4 (Nat.le_refl _) b5
  have ba_u5 := ba_5.cell0
  have ba_v5 := ba_5.cell1
  have ba_w5 := ba_5.cell2
  have bb_u5 := bb_5.cell0
  have bb_v5 := bb_5.cell1
  have bb_w5 := bb_5.cell2
  go_wp2_with fail
  refine (HM1.out _ h_5 k_5 T_5).mono ?_
  rintro e w6 ⟨s6, A6, n6, c6, x6, rfl, y1, b6⟩
  have h_6 := h_5.below b6
  have k_6 := k_5.below b6
  have T_6 := T_5.below b6
  have ba_6 := ba_5.below b6 ba_5.lt
  have bb_6 := bb_5.below b6 bb_5.lt
  have F6 := below_then F5 (Nat.le_refl _) b6
  have ba_u6 := ba_6.cell0
  have ba_v6 := ba_6.cell1
  have ba_w6 := ba_6.cell2
  have bb_u6 := bb_6.cell0
  have bb_v6 := bb_6.cell1
  have bb_w6 := bb_6.cell2
  have lt_bp_ba := ba_6.lt
  have lt_bp_bb := bb_6.lt
  have h_7 := h_6.alloc (EY s6 A6 n6 c6 x6)
  have k_7 := k_6.alloc (EY s6 A6 n6 c6 x6)
  have T_7 := T_6.alloc (EY s6 A6 n6 c6 x6)
  have y1_7 := y1.alloc (EY s6 A6 n6 c6 x6)
  have ba_7 := ba_6.alloc (EY s6 A6 n6 c6 x6)
  have bb_7 := bb_6.alloc (EY s6 A6 n6 c6 x6)
  have bp_7 : Sy ((w6).alloc (EY s6 A6 n6 c6 x6)) (w6.heap.size) (.bool s6) (.slice A6 n6 c6) (.int .i64 x6) := by have h_ := Sy.new (w6) (.bool s6) (.slice A6 n6 c6) (.int .i64 x6); exact h_
  have F7 := F6.alloc F6.size (EY s6 A6 n6 c6 x6)
  have ba_u7 := ba_7.cell0
  have ba_v7 := ba_7.cell1
  have ba_w7 := ba_7.cell2
  have bb_u7 := bb_7.cell0
  have bb_v7 := bb_7.cell1
  have bb_w7 := bb_7.cell2
  have bp_u7 := bp_7.cell0
  have bp_v7 := bp_7.cell1
  have bp_w7 := bp_7.cell2
  go_wp2_with fail
  refine (HM2.out _ h_7 k_7).mono ?_
  rintro e w8 ⟨s8, A8, n8, c8, x8, rfl, y2, b8⟩
  have h_8 := h_7.below b8
  have k_8 := k_7.below b8
  have T_8 := T_7.below b8
  have y1_8 := y1_7.below b8
  have ba_8 := ba_7.below b8 ba_7.lt
  have bb_8 := bb_7.below b8 bb_7.lt
  have bp_8 := bp_7.below b8 bp_7.lt
  have F8 := below_then F7 (Nat.le_refl _) b8
  have ba_u8 := ba_8.cell0
  have ba_v8 := ba_8.cell1
  have ba_w8 := ba_8.cell2
  have bb_u8 := bb_8.cell0
  have bb_v8 := bb_8.cell1
  have bb_w8 := bb_8.cell2
  have bp_u8 := bp_8.cell0
  have bp_v8 := bp_8.cell1
  have bp_w8 := bp_8.cell2
  have lt_bq_ba := ba_8.lt
  have lt_bq_bb := bb_8.lt
  have lt_bq_bp := bp_8.lt
  have h_9 := h_8.alloc (EY s8 A8 n8 c8 x8)
  have k_9 := k_8.alloc (EY s8 A8 n8 c8 x8)
  have T_9 := T_8.alloc (EY s8 A8 n8 c8 x8)
  have y1_9 := y1_8.alloc (EY s8 A8 n8 c8 x8)
  have y2_9 := y2.alloc (EY s8 A8 n8 c8 x8)
  have ba_9 := ba_8.alloc (EY s8 A8 n8 c8 x8)
  have bb_9 := bb_8.alloc (EY s8 A8 n8 c8 x8)
  have bp_9 := bp_8.alloc (EY s8 A8 n8 c8 x8)
  have bq_9 : Sy ((w8).alloc (EY s8 A8 n8 c8 x8)) (w8.heap.size) (.bool s8) (.slice A8 n8 c8) (.int .i64 x8) := by have h_ := Sy.new (w8) (.bool s8) (.slice A8 n8 c8) (.int .i64 x8); exact h_
  have F9 := F8.alloc F8.size (EY s8 A8 n8 c8 x8)
  have ba_u9 := ba_9.cell0
  have ba_v9 := ba_9.cell1
  have ba_w9 := ba_9.cell2
  have bb_u9 := bb_9.cell0
  have bb_v9 := bb_9.cell1
  have bb_w9 := bb_9.cell2
  have bp_u9 := bp_9.cell0
  have bp_v9 := bp_9.cell1
  have bp_w9 := bp_9.cell2
  have bq_u9 := bq_9.cell0
  have bq_v9 := bq_9.cell1
  have bq_w9 := bq_9.cell2
  go_wp2_with fail
  refine (HP1.out _ h_9 T_9).mono ?_
  rintro e w10 ⟨s10, A10, n10, c10, x10, rfl, y3, b10⟩
  have h_10 := h_9.below b10
  have T_10 := T_9.below b10
  have y1_10 := y1_9.below b10
  have y2_10 := y2_9.below b10
  have ba_10 := ba_9.below b10 ba_9.lt
  have bb_10 := bb_9.below b10 bb_9.lt
  have bp_10 := bp_9.below b10 bp_9.lt
  have bq_10 := bq_9.below b10 bq_9.lt
  have F10 := below_then F9 (Nat.le_refl _) b10
  have ba_u10 := ba_10.cell0
  have ba_v10 := ba_10.cell1
  have ba_w10 := ba_10.cell2
  have bb_u10 := bb_10.cell0
  have bb_v10 := bb_10.cell1
  have bb_w10 := bb_10.cell2
  have bp_u10 := bp_10.cell0
  have bp_v10 := bp_10.cell1
  have bp_w10 := bp_10.cell2
  have bq_u10 := bq_10.cell0
  have bq_v10 := bq_10.cell1
  have bq_w10 := bq_10.cell2
  have lt_bs_ba := ba_10.lt
  have lt_bs_bb := bb_10.lt
  have lt_bs_bp := bp_10.lt
  have lt_bs_bq := bq_10.lt
  have h_11 := h_10.alloc (EY s10 A10 n10 c10 x10)
  have T_11 := T_10.alloc (EY s10 A10 n10 c10 x10)
  have y1_11 := y1_10.alloc (EY s10 A10 n10 c10 x10)
  have y2_11 := y2_10.alloc (EY s10 A10 n10 c10 x10)
  have y3_11 := y3.alloc (EY s10 A10 n10 c10 x10)
  have ba_11 := ba_10.alloc (EY s10 A10 n10 c10 x10)
  have bb_11 := bb_10.alloc (EY s10 A10 n10 c10 x10)
  have bp_11 := bp_10.alloc (EY s10 A10 n10 c10 x10)
  have bq_11 := bq_10.alloc (EY s10 A10 n10 c10 x10)
  have bs_11 : Sy ((w10).alloc (EY s10 A10 n10 c10 x10)) (w10.heap.size) (.bool s10) (.slice A10 n10 c10) (.int .i64 x10) := by have h_ := Sy.new (w10) (.bool s10) (.slice A10 n10 c10) (.int .i64 x10); exact h_
  have F11 := F10.alloc F10.size (EY s10 A10 n10 c10 x10)
  have ba_u11 := ba_11.cell0
  have ba_v11 := ba_11.cell1
  have ba_w11 := ba_11.cell2
  have bb_u11 := bb_11.cell0
  have bb_v11 := bb_11.cell1
  have bb_w11 := bb_11.cell2
  have bp_u11 := bp_11.cell0
  have bp_v11 := bp_11.cell1
  have bp_w11 := bp_11.cell2
  have bq_u11 := bq_11.cell0
  have bq_v11 := bq_11.cell1
  have bq_w11 := bq_11.cell2
  have bs_u11 := bs_11.cell0
  have bs_v11 := bs_11.cell1
  have bs_w11 := bs_11.cell2
  go_wp2_with fail
  refine (HP2.out _ h_11).mono ?_
  rintro e w12 ⟨s12, A12, n12, c12, x12, rfl, y4, b12⟩
  have h_12 := h_11.below b12
  have y1_12 := y1_11.below b12
  have y2_12 := y2_11.below b12
  have y3_12 := y3_11.below b12
  have ba_12 := ba_11.below b12 ba_11.lt
  have bb_12 := bb_11.below b12 bb_11.lt
  have bp_12 := bp_11.below b12 bp_11.lt
  have bq_12 := bq_11.below b12 bq_11.lt
  have bs_12 := bs_11.below b12 bs_11.lt
  have F12 := below_then F11 (Nat.le_refl _) b12
  have ba_u12 := ba_12.cell0
  have ba_v12 := ba_12.cell1
  have ba_w12 := ba_12.cell2
  have bb_u12 := bb_12.cell0
  have bb_v12 := bb_12.cell1
  have bb_w12 := bb_12.cell2
  have bp_u12 := bp_12.cell0
  have bp_v12 := bp_12.cell1
  have bp_w12 := bp_12.cell2
  have bq_u12 := bq_12.cell0
  have bq_v12 := bq_12.cell1
  have bq_w12 := bq_12.cell2
  have bs_u12 := bs_12.cell0
  have bs_v12 := bs_12.cell1
  have bs_w12 := bs_12.cell2
  have lt_bt_ba := ba_12.lt
  have lt_bt_bb := bb_12.lt
  have lt_bt_bp := bp_12.lt
  have lt_bt_bq := bq_12.lt
  have lt_bt_bs := bs_12.lt
  have h_13 := h_12.alloc (EY s12 A12 n12 c12 x12)
  have y1_13 := y1_12.alloc (EY s12 A12 n12 c12 x12)
  have y2_13 := y2_12.alloc (EY s12 A12 n12 c12 x12)
  have y3_13 := y3_12.alloc (EY s12 A12 n12 c12 x12)
  have y4_13 := y4.alloc (EY s12 A12 n12 c12 x12)
  have ba_13 := ba_12.alloc (EY s12 A12 n12 c12 x12)
  have bb_13 := bb_12.alloc (EY s12 A12 n12 c12 x12)
  have bp_13 := bp_12.alloc (EY s12 A12 n12 c12 x12)
  have bq_13 := bq_12.alloc (EY s12 A12 n12 c12 x12)
  have bs_13 := bs_12.alloc (EY s12 A12 n12 c12 x12)
  have bt_13 : Sy ((w12).alloc (EY s12 A12 n12 c12 x12)) (w12.heap.size) (.bool s12) (.slice A12 n12 c12) (.int .i64 x12) := by have h_ := Sy.new (w12) (.bool s12) (.slice A12 n12 c12) (.int .i64 x12); exact h_
  have F13 := F12.alloc F12.size (EY s12 A12 n12 c12 x12)
  have ba_u13 := ba_13.cell0
  have ba_v13 := ba_13.cell1
  have ba_w13 := ba_13.cell2
  have bb_u13 := bb_13.cell0
  have bb_v13 := bb_13.cell1
  have bb_w13 := bb_13.cell2
  have bp_u13 := bp_13.cell0
  have bp_v13 := bp_13.cell1
  have bp_w13 := bp_13.cell2
  have bq_u13 := bq_13.cell0
  have bq_v13 := bq_13.cell1
  have bq_w13 := bq_13.cell2
  have bs_u13 := bs_13.cell0
  have bs_v13 := bs_13.cell1
  have bs_w13 := bs_13.cell2
  have bt_u13 := bt_13.cell0
  have bt_v13 := bt_13.cell1
  have bt_w13 := bt_13.cell2
  have whz1 := Nat.le_trans (y1_13.ln hz) k6
  have whz2 := Nat.le_trans (y2_13.ln hz) k6
  have whz23 := Nat.le_trans (y3_13.ln hz2) k6
  have whz24 := Nat.le_trans (y4_13.ln hz2) k6
  go_wp2_with fail
  refine (rysame_q _ _ _ _ _ _ _ _ _ _ v _ y1_13 y2_13 whz1 whz2).mono ?_
  rintro e w14 ⟨rfl, b14⟩
  have h_14 := h_13.below b14
  have y1_14 := y1_13.below b14
  have y2_14 := y2_13.below b14
  have y3_14 := y3_13.below b14
  have y4_14 := y4_13.below b14
  have ba_14 := ba_13.below b14 ba_13.lt
  have bb_14 := bb_13.below b14 bb_13.lt
  have bp_14 := bp_13.below b14 bp_13.lt
  have bq_14 := bq_13.below b14 bq_13.lt
  have bs_14 := bs_13.below b14 bs_13.lt
  have bt_14 := bt_13.below b14 bt_13.lt
  have F14 := below_then F13 (Nat.le_refl _) b14
  have ba_u14 := ba_14.cell0
  have ba_v14 := ba_14.cell1
  have ba_w14 := ba_14.cell2
  have bb_u14 := bb_14.cell0
  have bb_v14 := bb_14.cell1
  have bb_w14 := bb_14.cell2
  have bp_u14 := bp_14.cell0
  have bp_v14 := bp_14.cell1
  have bp_w14 := bp_14.cell2
  have bq_u14 := bq_14.cell0
  have bq_v14 := bq_14.cell1
  have bq_w14 := bq_14.cell2
  have bs_u14 := bs_14.cell0
  have bs_v14 := bs_14.cell1
  have bs_w14 := bs_14.cell2
  have bt_u14 := bt_14.cell0
  have bt_v14 := bt_14.cell1
  have bt_w14 := bt_14.cell2
  go_wp2_with fail
  refine (rysame_q _ _ _ _ _ _ _ _ _ _ v2 _ y3_14 y4_14 whz23 whz24).mono ?_
  rintro e w15 ⟨rfl, b15⟩
  have h_15 := h_14.below b15
  have y1_15 := y1_14.below b15
  have y2_15 := y2_14.below b15
  have y3_15 := y3_14.below b15
  have y4_15 := y4_14.below b15
  have ba_15 := ba_14.below b15 ba_14.lt
  have bb_15 := bb_14.below b15 bb_14.lt
  have bp_15 := bp_14.below b15 bp_14.lt
  have bq_15 := bq_14.below b15 bq_14.lt
  have bs_15 := bs_14.below b15 bs_14.lt
  have bt_15 := bt_14.below b15 bt_14.lt
  have F15 := below_then F14 (Nat.le_refl _) b15
  have ba_u15 := ba_15.cell0
  have ba_v15 := ba_15.cell1
  have ba_w15 := ba_15.cell2
  have bb_u15 := bb_15.cell0
  have bb_v15 := bb_15.cell1
  have bb_w15 := bb_15.cell2
  have bp_u15 := bp_15.cell0
  have bp_v15 := bp_15.cell1
  have bp_w15 := bp_15.cell2
  have bq_u15 := bq_15.cell0
  have bq_v15 := bq_15.cell1
  have bq_w15 := bq_15.cell2
  have bs_u15 := bs_15.cell0
  have bs_v15 := bs_15.cell1
  have bs_w15 := bs_15.cell2
  have bt_u15 := bt_15.cell0
  have bt_v15 := bt_15.cell1
  have bt_w15 := bt_15.cell2
  go_wp2
  go_ret
  exact ⟨rfl, F15⟩
theorem law_range (s : Bool) (A : Option Addr) (n c : Nat) (e : Int) (t : Bool) (B : Option Addr) (m d : Nat) (x : Int) (xs ys : List Nat) (w : World) (hx : Rd w A n c xs) (hy : Rd w B m d ys) (T : Tb w) : Calls Tryd.prog 9 #[.agg #[.bool s, .slice A n c, .int .i64 e], .agg #[.bool t, .slice B m d, .int .i64 x]] w (fun e w' => e = .returned (.bool true) ∧ Below w.heap.size w w') := by
  by_cases hn : n ≤ 2
  · by_cases hm : m ≤ 2
    · rcases Bool.eq_false_or_eq_true (vb s xs e) with hv | hv
      · rcases Bool.eq_false_or_eq_true (vb t ys x) with hu | hu
        · exact dg_yes s A n c e t B m d x xs ys w hx hy hn hm hv hu T
        · exact dg_b s A n c e t B m d x xs ys w hx hy hn hm hv hu T
      · exact dg_a s A n c e t B m d x xs ys w hx hy hn hm hv T
    · exact dg_m s A n c e t B m d x xs ys w hx hy hn hm T
  · exact dg_n s A n c e t B m d x xs ys w hx hy hn T
end Go.Proofs.YthiapkalmmgliaaDoor
