/-
  The rational number of a dyadic number.
-/
import Derived.Test.YtnddhohjfjlaiaaGreatDoorEh
namespace Go.Proofs.YtnddhohjfjlaiaaGreatDoor
open Go.RowKit
set_option linter.unusedVariables false
set_option linter.unusedSimpArgs false

theorem dvl_up (s : Bool) (m k : Nat) : (dvl s m (k : Int)).num.natAbs = m * 2 ^ k ∧ (dvl s m (k : Int)).den = 1 := by
  unfold dvl
  rw [int_up]
  refine ⟨?_, rfl⟩
  show ((if s = true then -(m : Int) else (m : Int)) * ((2 ^ k : Nat) : Int)).natAbs = _
  rw [Int.natAbs_mul, sgn_abs, Int.natAbs_natCast]
theorem dvl_dn (s : Bool) (m k : Nat) (hm : m % 2 = 1) : (dvl s m (-(k : Int))).num.natAbs = m ∧ (dvl s m (-(k : Int))).den = 2 ^ k := by
  unfold dvl
  rw [int_p2]
  obtain ⟨h1, h2⟩ := rat_mk (n := if s = true then -(m : Int) else (m : Int)) (d := 2 ^ k) (by have := Nat.two_pow_pos k; omega) (by rw [sgn_abs]; exact odd_gcd hm k)
  exact ⟨by rw [h1, sgn_abs], h2⟩
theorem num_lt_iff (q : Rat) : decide (q.num < 0) = decide (q < 0) := by
  rw [decide_eq_decide]
  have h := Rat.num_nonneg (q := q)
  constructor
  · intro h1
    exact Rat.not_le.1 (fun h2 => by have := h.2 h2; omega)
  · intro h1
    have := mt h.1 (Rat.not_le.2 h1)
    omega
theorem yrat_up (s : Bool) (A : Option Addr) (n c : Nat) (e : Int) (q : Rat) (k : Nat) (w : World) (h : Cy w s A n c e q) (hn : n ≤ 16) (hk : e = (k : Int)) (hk2 : k ≤ 1000) : Calls Tryz.prog 19 #[.agg #[.bool s, .slice A n c, .int .i64 e]] w (GQ w q) := by
  have hv := h.val
  have hs := h.2.1
  rw [hk] at hv
  obtain ⟨a1, a2⟩ := dvl_up s (dm q) k
  rw [hv] at a1 a2
  have lX : dm q < pw 16 := by have := rd_lt h.1 hn; rwa [val_dg] at this
  have HL := hide (show dm q * 2 ^ k < pw 64 from mul_pw lX (two_lt_pw (K := 48) (by omega)))
  have H1 := hide a1
  have H2 := hide (show qd q = [] by unfold qd; rw [if_pos a2])
  have H3 := hide (show s = decide (q.num < 0) by rw [num_lt_iff]; exact hs)
  have h9 := (h.ny hn).nz
  clear h
  have h := h9
  clear h9
  have k1 : 16 ≤ 1048576 := by decide
  have k2 : k ≤ 1048576 := by omega
  subst hk
  clear hv hs a1 a2 lX
  have h_1 := h.alloc (EY s A n c (k : Int))
  have bx_1 : Sy ((w).alloc (EY s A n c (k : Int))) (w.heap.size) (.bool s) (.slice A n c) (.int .i64 (k : Int)) := by have h_ := Sy.new (w) (.bool s) (.slice A n c) (.int .i64 (k : Int)); exact h_
  have F1 := (Below.refl w.heap.size w).alloc (Nat.le_refl _) (EY s A n c (k : Int))
  have h_2 := h_1.alloc EQ0
  have bx_2 := bx_1.alloc EQ0
  have br_2 : Sq (((w).alloc (EY s A n c (k : Int))).alloc EQ0) (w.heap.size + 1) (.bool false) (.slice none 0 0) (.slice none 0 0) := by have h_ := Sq.new ((w).alloc (EY s A n c (k : Int))) (.bool false) (.slice none 0 0) (.slice none 0 0); simp only [World.size_alloc] at h_; exact h_
  have F2 := F1.alloc F1.size EQ0
  go_enter Tryz.func19, Tryz.ntmps19
  have bx_u2 := bx_2.cell0
  have bx_v2 := bx_2.cell1
  have bx_w2 := bx_2.cell2
  have br_u2 := br_2.cell0
  have br_v2 := br_2.cell1
  have br_w2 := br_2.cell2
  go_wp2_with fail
  refine (shl_n _ _ _ _ 64 (dm q) _ k _ _ rfl rfl h_2 HL.out k1 k2).mono ?_
  rintro e w3 ⟨A3, n3, c3, rfl, y, b3⟩
  have h_3 := h_2.below b3
  have bx_3 := bx_2.below b3 bx_2.lt
  have br_3 := br_2.below b3 br_2.lt
  have F3 := below_then F2 (Nat.le_refl _) b3
  have bx_u3 := bx_3.cell0
  have bx_v3 := bx_3.cell1
  have bx_w3 := bx_3.cell2
  have br_u3 := br_3.cell0
  have br_v3 := br_3.cell1
  have br_w3 := br_3.cell2
  have hc : Cq w3 s A3 n3 c3 none 0 0 q := ⟨by rw [H1.out]; exact y.2, by rw [H2.out]; exact Rd.empty _ _ _, H3.out⟩
  have br_f03 := br_3.frozen 0
  have br_f13 := br_3.frozen 1
  have br_f23 := br_3.frozen 2
  go_wp2_with fail
  refine bodyPost_ret (v := .agg #[.bool s, .slice A3 n3 c3, .slice none 0 0]) (by simp [results, Tryz.results19, go_sem, (br_3.set0 (.bool s)).cell0, ((br_3.set0 (.bool s)).set1 (.slice A3 n3 c3)).cell1, (((br_3.set0 (.bool s)).set1 (.slice A3 n3 c3)).set2 (.slice none 0 0)).cell2]) rfl (gq_end F3 (by omega) br_3 hc)
theorem yrat_dn (s : Bool) (A : Option Addr) (n c : Nat) (e : Int) (q : Rat) (k : Nat) (w : World) (h : Cy w s A n c e q) (hn : n ≤ 16) (hk : e = -(k : Int)) (hk1 : 0 < k) (hk2 : k ≤ 1000) : Calls Tryz.prog 19 #[.agg #[.bool s, .slice A n c, .int .i64 e]] w (GQ w q) := by
  have hv := h.val
  have hs := h.2.1
  have h0 : q ≠ 0 := fun h0 => by
    have := h.2.2.1
    rw [h0, de_zero] at this
    omega
  rw [hk] at hv
  obtain ⟨a1, a2⟩ := dvl_dn s (dm q) k (dm_odd h0)
  rw [hv] at a1 a2
  obtain ⟨P, hP⟩ : ∃ P, 2 ^ k = P := ⟨_, rfl⟩
  have hP1 : P ≠ 1 := by
    rw [← hP]
    have : 2 ^ 1 ≤ 2 ^ k := Nat.pow_le_pow_right (by decide) hk1
    omega
  have HL := hide (show P < pw 64 by rw [← hP]; exact two_lt_pw (by omega))
  have HP := hide (show 1 * 2 ^ k = P by rw [Nat.one_mul, hP])
  have H1 := hide a1
  have H2 := hide (show qd q = dg P by unfold qd; rw [a2, hP, if_neg hP1])
  have H3 := hide (show s = decide (q.num < 0) by rw [num_lt_iff]; exact hs)
  have h9 := (h.ny hn).nz
  clear h
  have h := h9
  clear h9
  have k1 : 1 ≤ 1 := by decide
  have k0 : 1 ≤ 1048576 := by decide
  have k3 : 16 ≤ 1048576 := by decide
  have k2 : k ≤ 1048576 := by omega
  have d0 : decide (0 ≤ e) = false := by simp; omega
  have hm1 : -1000 ≤ e := by omega
  have hm2 : e < 0 := by omega
  have HZ := hide (show -e = (k : Int) by omega)
  have HW := hide (show IntKind.i64.wrap (-e) = (k : Int) by rw [IntWalk.i64_in _ (by omega)]; omega)
  clear hk
  clear hv hs a1 a2 h0 hP hP1 hk1
  have h_1 := h.alloc (EY s A n c e)
  have bx_1 : Sy ((w).alloc (EY s A n c e)) (w.heap.size) (.bool s) (.slice A n c) (.int .i64 e) := by have h_ := Sy.new (w) (.bool s) (.slice A n c) (.int .i64 e); exact h_
  have F1 := (Below.refl w.heap.size w).alloc (Nat.le_refl _) (EY s A n c e)
  have h_2 := h_1.alloc EQ0
  have bx_2 := bx_1.alloc EQ0
  have br_2 : Sq (((w).alloc (EY s A n c e)).alloc EQ0) (w.heap.size + 1) (.bool false) (.slice none 0 0) (.slice none 0 0) := by have h_ := Sq.new ((w).alloc (EY s A n c e)) (.bool false) (.slice none 0 0) (.slice none 0 0); simp only [World.size_alloc] at h_; exact h_
  have F2 := F1.alloc F1.size EQ0
  go_enter Tryz.func19, Tryz.ntmps19
  have bx_u2 := bx_2.cell0
  have bx_v2 := bx_2.cell1
  have bx_w2 := bx_2.cell2
  have br_u2 := br_2.cell0
  have br_v2 := br_2.cell1
  have br_w2 := br_2.cell2
  go_wp2_with fail
  have h_3 := h_2.drew
  have bx_3 := bx_2.drew
  have br_3 := br_2.drew
  have F3 := F2.drew
  go_region_held3 (fun w' => w'.cell? ⟨w.heap.size, 0, none⟩ = some (.bool s) ∧ w'.cell? ⟨w.heap.size, 1, none⟩ = some (.slice A n c) ∧ w'.cell? ⟨w.heap.size, 2, none⟩ = some (.int .i64 e) ∧ w'.cell? ⟨w.heap.size + 1, 0, none⟩ = some (.bool false) ∧ w'.cell? ⟨w.heap.size + 1, 1, none⟩ = some (.slice none 0 0) ∧ w'.cell? ⟨w.heap.size + 1, 2, none⟩ = some (.slice none 0 0))
    (first
      | with_reducible exact ⟨bx_5.cell0, bx_5.cell1, bx_5.cell2, br_5.cell0, br_5.cell1, br_5.cell2⟩
      | with_reducible exact ⟨bx_4.cell0, bx_4.cell1, bx_4.cell2, br_4.cell0, br_4.cell1, br_4.cell2⟩
      | with_reducible exact ⟨bx_3.cell0, bx_3.cell1, bx_3.cell2, br_3.cell0, br_3.cell1, br_3.cell2⟩
      | fail)
    (first
      | (go_at_call 33; (with_reducible refine (one_n _ 1 k1).mono ?_); rintro e w4 ⟨A4, n4, c4, rfl, o, b4⟩; have h_4 := h_3.below b4; have bx_4 := bx_3.below b4 bx_3.lt; have br_4 := br_3.below b4 br_3.lt; have F4 := below_then F3 (Nat.le_refl _) b4)
      | (go_at_call 32; (with_reducible refine (shl_n _ _ _ _ 64 1 P k _ _ (by first | exact HZ.out | exact HW.out) HP.out o.nz HL.out k0 k2).mono ?_); rintro e w5 ⟨A5, n5, c5, rfl, y, b5⟩; have h_5 := h_4.below b5; have o_5 := o.below b5; have bx_5 := bx_4.below b5 bx_4.lt; have br_5 := br_4.below b5 br_4.lt; have F5 := below_then F4 (Nat.le_refl _) b5)
      | fail)
  have bx_u5 := bx_5.cell0
  have bx_v5 := bx_5.cell1
  have bx_w5 := bx_5.cell2
  have br_u5 := br_5.cell0
  have br_v5 := br_5.cell1
  have br_w5 := br_5.cell2
  go_wp2_with fail
  have h_6 := h_5.drew
  have y_6 := y.drew
  have bx_6 := bx_5.drew
  have br_6 := br_5.drew
  have F6 := F5.drew
  go_region_held3 (fun w' => w'.cell? ⟨w.heap.size, 0, none⟩ = some (.bool s) ∧ w'.cell? ⟨w.heap.size, 1, none⟩ = some (.slice A n c) ∧ w'.cell? ⟨w.heap.size, 2, none⟩ = some (.int .i64 e))
    (first
      | with_reducible exact ⟨bx_p.cell0, bx_p.cell1, bx_p.cell2⟩
      | with_reducible exact ⟨bx_7.cell0, bx_7.cell1, bx_7.cell2⟩
      | with_reducible exact ⟨bx_6.cell0, bx_6.cell1, bx_6.cell2⟩
      | fail)
    (first
      | (go_at_call 34; (with_reducible refine (make_n _ _ _ 16 (dm q) _ h_6 k3).mono ?_); rintro e w7 ⟨A7, n7, c7, rfl, z, b7⟩; have h_7 := h_6.below b7; have y_7 := y_6.below b7; have bx_7 := bx_6.below b7 bx_6.lt; have br_7 := br_6.below b7 br_6.lt; have F7 := below_then F6 (Nat.le_refl _) b7; have br_g0 := br_7.cell0; have br_h0 := br_7.frozen 0; have br_g1 := br_7.cell1; have br_h1 := br_7.frozen 1; have br_g2 := br_7.cell2; have br_h2 := br_7.frozen 2; have bx_p := bx_7.past (g' := w.heap.size + 1) (u0 := .bool s) (u1 := .slice A7 n7 c7) (u2 := .slice A5 n5 c5) (by omega))
      | fail)
  have hc : Cq w7 s A7 n7 c7 A5 n5 c5 q := ⟨by rw [H1.out]; exact z.2, by rw [H2.out]; exact y_7.2, H3.out⟩
  go_wp2_with fail
  refine bodyPost_ret (v := .agg #[.bool s, .slice A7 n7 c7, .slice A5 n5 c5]) (by simp [results, Tryz.results19, go_sem, (br_7.set0 (.bool s)).cell0, ((br_7.set0 (.bool s)).set1 (.slice A7 n7 c7)).cell1, (((br_7.set0 (.bool s)).set1 (.slice A7 n7 c7)).set2 (.slice A5 n5 c5)).cell2]) rfl (gq_end F7 (by omega) br_7 hc)
theorem yrat_w (s : Bool) (A : Option Addr) (n c : Nat) (e : Int) (q : Rat) (w : World) (h : Cy w s A n c e q) (hn : n ≤ 16) (he : -1000 ≤ e ∧ e ≤ 1000) : Calls Tryz.prog 19 #[.agg #[.bool s, .slice A n c, .int .i64 e]] w (GQ w q) := by
  rcases Int.lt_or_le e 0 with h0 | h0
  · exact yrat_dn s A n c e q (-e).toNat w h hn (by omega) (by omega) (by omega)
  · exact yrat_up s A n c e q e.toNat w h hn (by omega) (by omega)
theorem yrat_q (s : Bool) (A : Option Addr) (n c : Nat) (e : Int) (q : Rat) (w : World) (h : Cy w s A n c e q) (hn : n ≤ 3) (he : -200 ≤ e ∧ e ≤ 200) : Calls Tryz.prog 19 #[.agg #[.bool s, .slice A n c, .int .i64 e]] w (GQ w q) := yrat_w s A n c e q w h (by omega) (by omega)
end Go.Proofs.YtnddhohjfjlaiaaGreatDoor
