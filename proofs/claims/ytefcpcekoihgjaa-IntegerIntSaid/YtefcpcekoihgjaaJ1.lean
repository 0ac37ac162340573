/-
  awake and few of the integer statements.
-/
import Derived.Test.YtefcpcekoihgjaaI9
namespace Go.Proofs.Ytefcpcekoihgjaa
open Go.RowKit
set_option linter.unusedVariables false
set_option linter.unusedSimpArgs false

theorem i64_in {z : Int} (h1 : -9223372036854775808 ≤ z) (h2 : z ≤ 9223372036854775807) : i64Of z = (z, true) := if_pos ⟨h1, h2⟩
theorem Cz.big {w : World} {s : Bool} {A : Option Addr} {n c : Nat} {z : Int} (h : Cz w s A n c z) (hz : z.natAbs < 4294967296) (k : Nat) (hk : 1 ≤ k) : n ≤ k := Nat.le_trans (h.len (k := 1) (by simpa [pw] using hz)) hk
theorem Cz.drew {w : World} {s : Bool} {A : Option Addr} {n c : Nat} {z : Int} (h : Cz w s A n c z) : Cz w.drew s A n c z := h.below (Below.refl _ _).drew
theorem Iz.drew {w : World} {s : Bool} {A : Option Addr} {n c : Nat} {z : Int} (h : Iz w s A n c z) : Iz w.drew s A n c z := h.below (Below.refl _ _).drew
theorem Rd.alloc {w : World} {A : Option Addr} {n c : Nat} {xs : List Nat} (h : Rd w A n c xs) (o : Obj) : Rd (w.alloc o) A n c xs := rd_alloc h o
theorem iz_nil (w : World) (s : Bool) (A : Option Addr) (c : Nat) : Iz w s A 0 c 0 := ⟨[], Rd.empty _ _ _, by cases s <;> rfl⟩
set_option maxHeartbeats 1000000 in
theorem awake_int (w : World) : Calls Try.prog 10 #[] w fun e w' => e = .returned (.bool true) ∧ Below w.heap.size w w' := by
  go_enter Try.func10, Try.ntmps10
  go_wp2_with fail
  refine (ofint_int (-7) _ (by omega) (by omega)).mono ?_
  rintro e w1 ⟨s1, A1, n1, c1, rfl, q1, b1⟩
  have F1 := below_then (Below.refl _ _) (Nat.le_refl _) b1
  go_wp2_with fail
  refine (ofint_int 2 _ (by omega) (by omega)).mono ?_
  rintro e w2 ⟨s2, A2, n2, c2, rfl, q2, b2⟩
  have q1_2 := q1.below b2
  have F2 := below_then F1 (Nat.le_refl _) b2
  go_wp2_with fail
  refine (divmod_int _ _ _ _ _ _ _ _ (-7) 2 (-4) 1 _ (by decide) (by decide) (by omega) q1_2.iz q2.iz (q1_2.big (by decide) _ (by omega)) (q2.big (by decide) _ (by omega))).mono ?_
  rintro e w3 ⟨s3, A3, n3, c3, t3, B3, m3, d3, rfl, q, r, b3⟩
  have q1_3 := q1_2.below b3
  have q2_3 := q2.below b3
  have F3 := below_then F2 (Nat.le_refl _) b3
  have q_4 := q.alloc (EI s3 A3 n3 c3)
  have r_4 := r.alloc (EI s3 A3 n3 c3)
  have bq_4 : Sb ((w3).alloc (EI s3 A3 n3 c3)) (w3.heap.size) (.bool s3) (.slice A3 n3 c3) := by have h_ := Sb.new (w3) (.bool s3) (.slice A3 n3 c3); exact h_
  have F4 := F3.alloc (by simpa using F3.size) (EI s3 A3 n3 c3)
  have q_5 := q_4.alloc (EI t3 B3 m3 d3)
  have r_5 := r_4.alloc (EI t3 B3 m3 d3)
  have bq_5 := bq_4.alloc (EI t3 B3 m3 d3)
  have br_5 : Sb (((w3).alloc (EI s3 A3 n3 c3)).alloc (EI t3 B3 m3 d3)) (w3.heap.size + 1) (.bool t3) (.slice B3 m3 d3) := by have h_ := Sb.new ((w3).alloc (EI s3 A3 n3 c3)) (.bool t3) (.slice B3 m3 d3); simp only [World.size_alloc] at h_; exact h_
  have F5 := F4.alloc (by simpa using F4.size) (EI t3 B3 m3 d3)
  go_wp2_with fail
  refine (ofint_int (-7) _ (by omega) (by omega)).mono ?_
  rintro e w6 ⟨s6, A6, n6, c6, rfl, q3, b6⟩
  have q_6 := q_5.below b6
  have r_6 := r_5.below b6
  have bq_6 := bq_5.below b6 bq_5.lt
  have br_6 := br_5.below b6 br_5.lt
  have F6 := below_then F5 (Nat.le_refl _) b6
  have bq_u6 := bq_6.cell0
  have bq_v6 := bq_6.cell1
  have br_u6 := br_6.cell0
  have br_v6 := br_6.cell1
  go_wp2_with fail
  refine (ofint_int (-2) _ (by omega) (by omega)).mono ?_
  rintro e w7 ⟨s7, A7, n7, c7, rfl, q4, b7⟩
  have q_7 := q_6.below b7
  have r_7 := r_6.below b7
  have q3_7 := q3.below b7
  have bq_7 := bq_6.below b7 bq_6.lt
  have br_7 := br_6.below b7 br_6.lt
  have F7 := below_then F6 (Nat.le_refl _) b7
  have bq_u7 := bq_7.cell0
  have bq_v7 := bq_7.cell1
  have br_u7 := br_7.cell0
  have br_v7 := br_7.cell1
  go_wp2_with fail
  refine (divmod_int _ _ _ _ _ _ _ _ (-7) (-2) 4 1 _ (by decide) (by decide) (by omega) q3_7.iz q4.iz (q3_7.big (by decide) _ (by omega)) (q4.big (by decide) _ (by omega))).mono ?_
  rintro e w8 ⟨s8, A8, n8, c8, t8, B8, m8, d8, rfl, s, t, b8⟩
  have q_8 := q_7.below b8
  have r_8 := r_7.below b8
  have q3_8 := q3_7.below b8
  have q4_8 := q4.below b8
  have bq_8 := bq_7.below b8 bq_7.lt
  have br_8 := br_7.below b8 br_7.lt
  have F8 := below_then F7 (Nat.le_refl _) b8
  have bq_u8 := bq_8.cell0
  have bq_v8 := bq_8.cell1
  have br_u8 := br_8.cell0
  have br_v8 := br_8.cell1
  have q_9 := q_8.alloc (EI s8 A8 n8 c8)
  have r_9 := r_8.alloc (EI s8 A8 n8 c8)
  have s_9 := s.alloc (EI s8 A8 n8 c8)
  have t_9 := t.alloc (EI s8 A8 n8 c8)
  have bq_9 := bq_8.alloc (EI s8 A8 n8 c8)
  have br_9 := br_8.alloc (EI s8 A8 n8 c8)
  have bs_9 : Sb ((w8).alloc (EI s8 A8 n8 c8)) (w8.heap.size) (.bool s8) (.slice A8 n8 c8) := by have h_ := Sb.new (w8) (.bool s8) (.slice A8 n8 c8); exact h_
  have F9 := F8.alloc (by simpa using F8.size) (EI s8 A8 n8 c8)
  have q_10 := q_9.alloc (EI t8 B8 m8 d8)
  have r_10 := r_9.alloc (EI t8 B8 m8 d8)
  have s_10 := s_9.alloc (EI t8 B8 m8 d8)
  have t_10 := t_9.alloc (EI t8 B8 m8 d8)
  have bq_10 := bq_9.alloc (EI t8 B8 m8 d8)
  have br_10 := br_9.alloc (EI t8 B8 m8 d8)
  have bs_10 := bs_9.alloc (EI t8 B8 m8 d8)
  have bt_10 : Sb (((w8).alloc (EI s8 A8 n8 c8)).alloc (EI t8 B8 m8 d8)) (w8.heap.size + 1) (.bool t8) (.slice B8 m8 d8) := by have h_ := Sb.new ((w8).alloc (EI s8 A8 n8 c8)) (.bool t8) (.slice B8 m8 d8); simp only [World.size_alloc] at h_; exact h_
  have F10 := F9.alloc (by simpa using F9.size) (EI t8 B8 m8 d8)
  have bq_u10 := bq_10.cell0
  have bq_v10 := bq_10.cell1
  have br_u10 := br_10.cell0
  have br_v10 := br_10.cell1
  have bs_u10 := bs_10.cell0
  have bs_v10 := bs_10.cell1
  have bt_u10 := bt_10.cell0
  have bt_v10 := bt_10.cell1
  go_wp2_with fail
  refine (int_int _ _ _ _ (-4) (-4) true _ (i64_in (by omega) (by omega)) q_10.iz (q_10.big (by decide) _ (by omega))).mono ?_
  rintro e w11 ⟨rfl, b11⟩
  have q_11 := q_10.below b11
  have r_11 := r_10.below b11
  have s_11 := s_10.below b11
  have t_11 := t_10.below b11
  have bq_11 := bq_10.below b11 bq_10.lt
  have br_11 := br_10.below b11 br_10.lt
  have bs_11 := bs_10.below b11 bs_10.lt
  have bt_11 := bt_10.below b11 bt_10.lt
  have F11 := below_then F10 (Nat.le_refl _) b11
  have bq_u11 := bq_11.cell0
  have bq_v11 := bq_11.cell1
  have br_u11 := br_11.cell0
  have br_v11 := br_11.cell1
  have bs_u11 := bs_11.cell0
  have bs_v11 := bs_11.cell1
  have bt_u11 := bt_11.cell0
  have bt_v11 := bt_11.cell1
  go_wp2_with fail
  refine (int_int _ _ _ _ 4 4 true _ (i64_in (by omega) (by omega)) s_11.iz (s_11.big (by decide) _ (by omega))).mono ?_
  rintro e w12 ⟨rfl, b12⟩
  have r_12 := r_11.below b12
  have s_12 := s_11.below b12
  have t_12 := t_11.below b12
  have bq_12 := bq_11.below b12 bq_11.lt
  have br_12 := br_11.below b12 br_11.lt
  have bs_12 := bs_11.below b12 bs_11.lt
  have bt_12 := bt_11.below b12 bt_11.lt
  have F12 := below_then F11 (Nat.le_refl _) b12
  have bq_u12 := bq_12.cell0
  have bq_v12 := bq_12.cell1
  have br_u12 := br_12.cell0
  have br_v12 := br_12.cell1
  have bs_u12 := bs_12.cell0
  have bs_v12 := bs_12.cell1
  have bt_u12 := bt_12.cell0
  have bt_v12 := bt_12.cell1
  go_wp2_with fail
  refine (sign_int _ _ _ _ 1 1 _ (by decide) r_12.iz (r_12.big (by decide) _ (by omega))).mono ?_
  rintro e w13 ⟨rfl, b13⟩
  have r_13 := r_12.below b13
  have t_13 := t_12.below b13
  have bq_13 := bq_12.below b13 bq_12.lt
  have br_13 := br_12.below b13 br_12.lt
  have bs_13 := bs_12.below b13 bs_12.lt
  have bt_13 := bt_12.below b13 bt_12.lt
  have F13 := below_then F12 (Nat.le_refl _) b13
  have bq_u13 := bq_13.cell0
  have bq_v13 := bq_13.cell1
  have br_u13 := br_13.cell0
  have br_v13 := br_13.cell1
  have bs_u13 := bs_13.cell0
  have bs_v13 := bs_13.cell1
  have bt_u13 := bt_13.cell0
  have bt_v13 := bt_13.cell1
  go_wp2_with fail
  refine (cmp_int _ _ _ _ _ _ _ _ 1 1 0 _ (by decide) r_13.iz t_13.iz (r_13.big (by decide) _ (by omega)) (t_13.big (by decide) _ (by omega))).mono ?_
  rintro e w14 ⟨rfl, b14⟩
  have r_14 := r_13.below b14
  have t_14 := t_13.below b14
  have bq_14 := bq_13.below b14 bq_13.lt
  have br_14 := br_13.below b14 br_13.lt
  have bs_14 := bs_13.below b14 bs_13.lt
  have bt_14 := bt_13.below b14 bt_13.lt
  have F14 := below_then F13 (Nat.le_refl _) b14
  have bq_u14 := bq_14.cell0
  have bq_v14 := bq_14.cell1
  have br_u14 := br_14.cell0
  have br_v14 := br_14.cell1
  have bs_u14 := bs_14.cell0
  have bs_v14 := bs_14.cell1
  have bt_u14 := bt_14.cell0
  have bt_v14 := bt_14.cell1
  go_wp2_with fail
  refine (make_int true none 0 0 0 _ (iz_nil _ _ _ _) (by omega)).mono ?_
  rintro e w15 ⟨s15, A15, n15, c15, rfl, z, b15⟩
  have bq_15 := bq_14.below b15 bq_14.lt
  have br_15 := br_14.below b15 br_14.lt
  have bs_15 := bs_14.below b15 bs_14.lt
  have bt_15 := bt_14.below b15 bt_14.lt
  have F15 := below_then F14 (Nat.le_refl _) b15
  have bq_u15 := bq_15.cell0
  have bq_v15 := bq_15.cell1
  have br_u15 := br_15.cell0
  have br_v15 := br_15.cell1
  have bs_u15 := bs_15.cell0
  have bs_v15 := bs_15.cell1
  have bt_u15 := bt_15.cell0
  have bt_v15 := bt_15.cell1
  go_wp2_with fail
  refine (sign_int _ _ _ _ 0 0 _ (by decide) z.iz (z.big (by decide) _ (by omega))).mono ?_
  rintro e w16 ⟨rfl, b16⟩
  have z_16 := z.below b16
  have bq_16 := bq_15.below b16 bq_15.lt
  have br_16 := br_15.below b16 br_15.lt
  have bs_16 := bs_15.below b16 bs_15.lt
  have bt_16 := bt_15.below b16 bt_15.lt
  have F16 := below_then F15 (Nat.le_refl _) b16
  have bq_u16 := bq_16.cell0
  have bq_v16 := bq_16.cell1
  have br_u16 := br_16.cell0
  have br_v16 := br_16.cell1
  have bs_u16 := bs_16.cell0
  have bs_v16 := bs_16.cell1
  have bt_u16 := bt_16.cell0
  have bt_v16 := bt_16.cell1
  go_wp2
  go_ret
  exact ⟨rfl, F16⟩
theorem few_int (s t u : Bool) (A B C : Option Addr) (n m l c d f : Nat) (w : World) (b : Bool) (hb : decide (n ≤ 8 ∧ m ≤ 8 ∧ l ≤ 8) = b) :
    Calls Try.prog 22 #[.agg #[.bool s, .slice A n c], .agg #[.bool t, .slice B m d], .agg #[.bool u, .slice C l f]] w (Asks w (.bool b)) := by
  have hB : Below w.heap.size w (((w.alloc (EI s A n c)).alloc (EI t B m d)).alloc (EI u C l f)) := (((Below.refl _ _).alloc (Nat.le_refl _) _).alloc (by simp) _).alloc (by simp; omega) _
  have F : ∀ (p q r : Bool), decide ((n : Int) ≤ 8) = p → decide ((m : Int) ≤ 8) = q → decide ((l : Int) ≤ 8) = r → Calls Try.prog 22 #[.agg #[.bool s, .slice A n c], .agg #[.bool t, .slice B m d], .agg #[.bool u, .slice C l f]] w (Asks w (.bool (p && q && r))) := by
    intro p q r hp hq hr
    cases p <;> cases q <;> cases r
    all_goals
      go_enter Try.func22, Try.ntmps22
      go_wp2
      go_ret
      exact ⟨rfl, hB⟩
  have := F _ _ _ rfl rfl rfl
  rw [show (decide ((n : Int) ≤ 8) && decide ((m : Int) ≤ 8) && decide ((l : Int) ≤ 8)) = b from by rw [← hb, ← Bool.decide_and, ← Bool.decide_and]; simp only [decide_eq_decide]; omega] at this
  exact this
end Go.Proofs.Ytefcpcekoihgjaa
