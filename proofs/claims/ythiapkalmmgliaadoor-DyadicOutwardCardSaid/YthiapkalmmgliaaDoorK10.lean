/-
  The comparison.
-/
import Derived.Test.YthiapkalmmgliaaDoorK9
namespace Go.Proofs.YthiapkalmmgliaaDoor
open Go.RowKit
set_option linter.unusedVariables false
set_option linter.unusedSimpArgs false

theorem Cy.size {w : World} {s : Bool} {A : Option Addr} {n c : Nat} {e : Int} {q : Rat} (h : Cy w s A n c e q) {k : Nat} (hq : Qs k q) : n ≤ k ∧ -(32 * k : Int) ≤ e ∧ e ≤ 32 * k := by
  have hd := de_bd hq
  rw [h.2.2.1]
  exact ⟨h.ln (Nat.lt_of_le_of_lt (odp_le _) hq.1), hd⟩
theorem rycmp (s t : Bool) (A B : Option Addr) (n m c d : Nat) (e x : Int) (p q : Rat) (r : Int) (w : World) (hr : sz (p - q).num = r) (h : Cy w s A n c e p) (k : Cy w t B m d x q) (hp : Qs 4000 p) (hq : Qs 4000 q) :
    Calls Tryd.prog 34 #[.agg #[.bool s, .slice A n c, .int .i64 e], .agg #[.bool t, .slice B m d, .int .i64 x]] w (Asks w (.int .i64 r)) := by
  have HR := hide hr
  have HP := hide (show p.num.natAbs < pw 4000 ∧ p.den < pw 4000 from hp)
  have HQ := hide (show q.num.natAbs < pw 4000 ∧ q.den < pw 4000 from hq)
  obtain ⟨z1, z2, z3⟩ := h.size hp
  obtain ⟨y1, y2, y3⟩ := k.size hq
  have HZ := hide (show n ≤ 8000 ∧ (-256000 < e ∧ e < 256000) by omega)
  have HY := hide (show m ≤ 8000 ∧ (-256000 < x ∧ x < 256000) by omega)
  clear hr hp hq z1 z2 z3 y1 y2 y3
  have h_1 := h.alloc (EY s A n c e)
  have k_1 := k.alloc (EY s A n c e)
  have ba_1 : Sy ((w).alloc (EY s A n c e)) (w.heap.size) (.bool s) (.slice A n c) (.int .i64 e) := by have h_ := Sy.new (w) (.bool s) (.slice A n c) (.int .i64 e); exact h_
  have F1 := (Below.refl w.heap.size w).alloc (Nat.le_refl _) (EY s A n c e)
  have h_2 := h_1.alloc (EY t B m d x)
  have k_2 := k_1.alloc (EY t B m d x)
  have ba_2 := ba_1.alloc (EY t B m d x)
  have bb_2 : Sy (((w).alloc (EY s A n c e)).alloc (EY t B m d x)) (w.heap.size + 1) (.bool t) (.slice B m d) (.int .i64 x) := by have h_ := Sy.new ((w).alloc (EY s A n c e)) (.bool t) (.slice B m d) (.int .i64 x); simp only [World.size_alloc] at h_; exact h_
  have F2 := F1.alloc F1.size (EY t B m d x)
  go_enter Tryd.func34, Tryd.ntmps34
  have ba_u2 := ba_2.cell0
  have ba_v2 := ba_2.cell1
  have ba_w2 := ba_2.cell2
  have bb_u2 := bb_2.cell0
  have bb_v2 := bb_2.cell1
  have bb_w2 := bb_2.cell2
  go_wp2_with fail
  have h_3 := h_2.drew
  have k_3 := k_2.drew
  have ba_3 := ba_2.drew
  have bb_3 := bb_2.drew
  have F3 := F2.drew
  go_region_held3 (fun w' => w'.cell? ⟨w.heap.size, 0, none⟩ = some (.bool s) ∧ w'.cell? ⟨w.heap.size, 1, none⟩ = some (.slice A n c) ∧ w'.cell? ⟨w.heap.size, 2, none⟩ = some (.int .i64 e) ∧ w'.cell? ⟨w.heap.size + 1, 0, none⟩ = some (.bool t) ∧ w'.cell? ⟨w.heap.size + 1, 1, none⟩ = some (.slice B m d) ∧ w'.cell? ⟨w.heap.size + 1, 2, none⟩ = some (.int .i64 x))
    (first
      | with_reducible exact ⟨ba_6.cell0, ba_6.cell1, ba_6.cell2, bb_6.cell0, bb_6.cell1, bb_6.cell2⟩
      | with_reducible exact ⟨ba_5.cell0, ba_5.cell1, ba_5.cell2, bb_5.cell0, bb_5.cell1, bb_5.cell2⟩
      | with_reducible exact ⟨ba_4.cell0, ba_4.cell1, ba_4.cell2, bb_4.cell0, bb_4.cell1, bb_4.cell2⟩
      | with_reducible exact ⟨ba_3.cell0, ba_3.cell1, ba_3.cell2, bb_3.cell0, bb_3.cell1, bb_3.cell2⟩
      | fail)
    (first
      | (go_at_call 23; (with_reducible refine (ryrat _ _ _ _ _ _ _ h_3 HZ.out.1 HZ.out.2).mono ?_); rintro e w4 ⟨s4, A4, n4, c4, B4, m4, d4, rfl, u, b4⟩; have h_4 := h_3.below b4; have k_4 := k_3.below b4; have ba_4 := ba_3.below b4 ba_3.lt; have bb_4 := bb_3.below b4 bb_3.lt; have F4 := below_then F3 (Nat.le_refl _) b4)
      | (go_at_call 23; (with_reducible refine (ryrat _ _ _ _ _ _ _ k_4 HY.out.1 HY.out.2).mono ?_); rintro e w5 ⟨s5, A5, n5, c5, B5, m5, d5, rfl, v, b5⟩; have h_5 := h_4.below b5; have k_5 := k_4.below b5; have u_5 := u.below b5; have ba_5 := ba_4.below b5 ba_4.lt; have bb_5 := bb_4.below b5 bb_4.lt; have F5 := below_then F4 (Nat.le_refl _) b5)
      | (go_at_call 30; (with_reducible refine (rcmp_q _ _ _ _ _ _ _ _ _ _ _ _ _ _ _ _ _ _ HR.out u_5.iq v.iq (u_5.ln HP.out.1) (u_5.ld HP.out.2) (v.ln HQ.out.1) (v.ld HQ.out.2)).mono ?_); rintro e w6 ⟨rfl, b6⟩; have h_6 := h_5.below b6; have k_6 := k_5.below b6; have u_6 := u_5.below b6; have v_6 := v.below b6; have ba_6 := ba_5.below b6 ba_5.lt; have bb_6 := bb_5.below b6 bb_5.lt; have F6 := below_then F5 (Nat.le_refl _) b6)
      | fail)
  have ba_u6 := ba_6.cell0
  have ba_v6 := ba_6.cell1
  have ba_w6 := ba_6.cell2
  have bb_u6 := bb_6.cell0
  have bb_v6 := bb_6.cell1
  have bb_w6 := bb_6.cell2
  go_wp2
  go_ret
  exact ⟨rfl, F6⟩
end Go.Proofs.YthiapkalmmgliaaDoor
