/-
  The program's Canon, Valid, Sign, Neg, Num, Den, Of.
-/
import Derived.Test.YtnddhohjfjlaiaaGreatDoorQ1
namespace Go.Proofs.YtnddhohjfjlaiaaGreatDoor
open Go.RowKit
set_option linter.unusedVariables false
set_option linter.unusedSimpArgs false

theorem iv_dg (s : Bool) (xs : List Nat) : iv s (dg (val xs)) = iv s xs := by unfold iv; rw [val_dg]
set_option maxHeartbeats 1000000 in
theorem canon_q (s : Bool) (A : Option Addr) (n c : Nat) (B : Option Addr) (m d : Nat) (q : Rat) (w : World) (h : Iq w s A n c B m d q) (hn : n ≤ 16384) (hm : m ≤ 16384) :
    Calls Tryz.prog 39 #[.agg #[.bool s, .slice A n c, .slice B m d]] w (GQ w q) := by
  obtain ⟨xs, ys, hx0, hy, hq⟩ := h
  have hx := hx0.nz hn
  obtain ⟨D, hD⟩ : ∃ D, rden ys = D := ⟨_, rfl⟩
  have HD := hide hD
  have HQ := hide (show mkRat (iv s (dg (val xs))) D = q by rw [iv_dg, ← hD]; exact hq)
  have H0 : D ≠ 0 := by rw [← hD]; exact rden_pos ys
  have hK : 16384 ≤ 1048576 := by omega
  have h1 : 1 ≤ 16384 := by omega
  have hk : 16384 ≤ 65536 := by omega
  clear hD hq hx0
  have hx_1 := hx.alloc (EQ s A n c B m d)
  have hy_1 := hy.alloc (EQ s A n c B m d)
  have bx_1 : Sq ((w).alloc (EQ s A n c B m d)) (w.heap.size) (.bool s) (.slice A n c) (.slice B m d) := by have h_ := Sq.new (w) (.bool s) (.slice A n c) (.slice B m d); exact h_
  have F1 := (Below.refl w.heap.size w).alloc (Nat.le_refl _) (EQ s A n c B m d)
  have hx_2 := hx_1.alloc EQ0
  have hy_2 := hy_1.alloc EQ0
  have bx_2 := bx_1.alloc EQ0
  have br_2 : Sq (((w).alloc (EQ s A n c B m d)).alloc EQ0) (w.heap.size + 1) (.bool false) (.slice none 0 0) (.slice none 0 0) := by have h_ := Sq.new ((w).alloc (EQ s A n c B m d)) (.bool false) (.slice none 0 0) (.slice none 0 0); simp only [World.size_alloc] at h_; exact h_
  have F2 := F1.alloc F1.size EQ0
  go_enter Tryz.func39, Tryz.ntmps39
  go_wp2_with fail
  have hx_3 := hx_2.drew
  have hy_3 := hy_2.drew
  have bx_3 := bx_2.drew
  have br_3 := br_2.drew
  have F3 := F2.drew
  go_region_held3 (fun w' => w'.cell? ⟨w.heap.size, 0, none⟩ = some (.bool s) ∧ w'.cell? ⟨w.heap.size, 1, none⟩ = some (.slice A n c) ∧ w'.cell? ⟨w.heap.size, 2, none⟩ = some (.slice B m d))
    (first
      | with_reducible exact ⟨bx_p.cell0, bx_p.cell1, bx_p.cell2⟩
      | with_reducible exact ⟨bx_7.cell0, bx_7.cell1, bx_7.cell2⟩
      | with_reducible exact ⟨bx_6.cell0, bx_6.cell1, bx_6.cell2⟩
      | with_reducible exact ⟨bx_5.cell0, bx_5.cell1, bx_5.cell2⟩
      | with_reducible exact ⟨bx_4.cell0, bx_4.cell1, bx_4.cell2⟩
      | with_reducible exact ⟨bx_3.cell0, bx_3.cell1, bx_3.cell2⟩
      | fail)
    (first
      | (go_at_call 34; (with_reducible refine (make_n _ _ _ 16384 _ _ hx_3 hK).mono ?_); rintro e w4 ⟨A4, n4, c4, rfl, a, b4⟩; have hx_4 := hx_3.below b4; have hy_4 := hy_3.below b4; have bx_4 := bx_3.below b4 bx_3.lt; have br_4 := br_3.below b4 br_3.lt; have F4 := below_then F3 (Nat.le_refl _) b4)
      | (go_at_call 42; (with_reducible refine (divisor_n _ _ _ _ _ _ _ ys 16384 D _ HD.out hy_4 hm h1 hK).mono ?_); rintro e w5 ⟨A5, n5, c5, rfl, o, b5⟩; have hx_5 := hx_4.below b5; have hy_5 := hy_4.below b5; have a_5 := a.below b5; have bx_5 := bx_4.below b5 bx_4.lt; have br_5 := br_4.below b5 br_4.lt; have F5 := below_then F4 (Nat.le_refl _) b5)
      | (go_at_call 34; (with_reducible refine (make_n _ _ _ 16384 D _ o hK).mono ?_); rintro e w6 ⟨A6, n6, c6, rfl, b, b6⟩; have hx_6 := hx_5.below b6; have hy_6 := hy_5.below b6; have a_6 := a_5.below b6; have o_6 := o.below b6; have bx_6 := bx_5.below b6 bx_5.lt; have br_6 := br_5.below b6 br_5.lt; have F6 := below_then F5 (Nat.le_refl _) b6)
      | (go_at_call 44; (with_reducible refine (quo_n _ _ _ _ _ _ _ _ _ _ _ q _ HQ.out H0 a_6 b hk hk).mono ?_); rintro e w7 ⟨s7, A7, n7, c7, B7, m7, d7, rfl, k, b7⟩; have hx_7 := hx_6.below b7; have hy_7 := hy_6.below b7; have a_7 := a_6.below b7; have o_7 := o_6.below b7; have b_7 := b.below b7; have bx_7 := bx_6.below b7 bx_6.lt; have br_7 := br_6.below b7 br_6.lt; have F7 := below_then F6 (Nat.le_refl _) b7; have br_g0 := br_7.cell0; have br_h0 := br_7.frozen 0; have br_g1 := br_7.cell1; have br_h1 := br_7.frozen 1; have br_g2 := br_7.cell2; have br_h2 := br_7.frozen 2; have bx_p := bx_7.past (g' := w.heap.size + 1) (u0 := .bool s7) (u1 := .slice A7 n7 c7) (u2 := .slice B7 m7 d7) (by omega))
      | fail)
  go_wp2_with fail
  refine bodyPost_ret (v := .agg #[.bool s7, .slice A7 n7 c7, .slice B7 m7 d7]) (by simp [results, Tryz.results39, go_sem, (br_7.set0 (.bool s7)).cell0, ((br_7.set0 (.bool s7)).set1 (.slice A7 n7 c7)).cell1, (((br_7.set0 (.bool s7)).set1 (.slice A7 n7 c7)).set2 (.slice B7 m7 d7)).cell2]) rfl (gq_end F7 (by omega) br_7 k)
theorem divisor_c (s : Bool) (A : Option Addr) (n c : Nat) (B : Option Addr) (m d : Nat) (q : Rat) (k : Nat) (w : World) (h : Rd w B m d (qd q)) (hq : q.den < pw k) (hk : 1 ≤ k) (hK : k ≤ 1048576) :
    Calls Tryz.prog 42 #[.agg #[.bool s, .slice A n c, .slice B m d]] w (GY w k q.den) := by
  have hm := h.len
  by_cases h1 : q.den = 1
  · have e : val (qd q) = 0 := by rw [qd, if_pos h1]; rfl
    have e2 : (qd q).length = 0 := by rw [qd, if_pos h1]; rfl
    rw [h1]
    exact divisor_1 s A n c B m d (qd q) k w e h (by omega) hk
  · have e : qd q = dg q.den := by rw [qd, if_neg h1]
    have h0 : val (qd q) ≠ 0 := by rw [e, val_dg]; exact q.den_nz
    have hm2 : m ≤ k := by rw [e] at hm; have := dg_le hq; omega
    refine (divisor_g s A n c B m d (qd q) w h0 h (by omega)).mono ?_
    rintro e' w' ⟨rfl, hb⟩
    exact ⟨_, _, _, rfl, ⟨hm2, by rw [← e]; exact h.below hb⟩, hb⟩
theorem gq_alloc_ {w w' : World} {q : Rat} {e : Ending} (h : GQ w q e w') (o : Obj) : GQ w q e (w'.alloc o) := by
  obtain ⟨s, A, n, c, B, m, d, he, hc, hb⟩ := h
  exact ⟨s, A, n, c, B, m, d, he, hc.alloc o, hb.alloc hb.size o⟩
end Go.Proofs.YtnddhohjfjlaiaaGreatDoor
