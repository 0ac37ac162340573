/-
  The canonical form.
-/
import Derived.Test.YtnddhohjfjlaiaaGreatDoorEb
namespace Go.Proofs.YtnddhohjfjlaiaaGreatDoor
open Go.RowKit
set_option linter.unusedVariables false
set_option linter.unusedSimpArgs false

theorem Ny.len0 {w : World} {A : Option Addr} {n c k X : Nat} {b : Bool} (h : Ny w A n c k X) (hb : decide (X = 0) = b) : ((n : Int) == 0) = b := by
  have h1 := h.len
  have h2 : (dg X).length = 0 ↔ X = 0 := by rw [List.length_eq_zero_iff, dg_nil_iff]
  rw [← hb, Bool.eq_iff_iff]
  simp
  omega
theorem can_zero (s : Bool) (A : Option Addr) (n c k : Nat) (e : Int) (w : World) (h : Nz w A n c k 0) (hk : k ≤ 1000000) (T : Tb w) :
    Calls Tryz.prog 51 #[.bool s, .slice A n c, .int .i64 e] w (GDB w 0 true) := by
  have h_1 := h.alloc EY0
  have T_1 := T.alloc EY0
  have br_1 : Sy ((w).alloc EY0) (w.heap.size) (.bool false) (.slice none 0 0) (.int .i64 0) := by have h_ := Sy.new (w) (.bool false) (.slice none 0 0) (.int .i64 0); exact h_
  have F1 := (Below.refl w.heap.size w).alloc (Nat.le_refl _) EY0
  go_enter Tryz.func51, Tryz.ntmps51
  have br_u1 := br_1.cell0
  have br_v1 := br_1.cell1
  have br_w1 := br_1.cell2
  go_wp2_with fail
  refine (odd_n _ _ _ _ 0 0 0 _ rfl rfl h_1 hk T_1).mono ?_
  rintro e w2 ⟨A2, n2, c2, rfl, o, b2⟩
  have h_2 := h_1.below b2
  have T_2 := T_1.below b2
  have br_2 := br_1.below b2 br_1.lt
  have F2 := below_then F1 (Nat.le_refl _) b2
  have br_u2 := br_2.cell0
  have br_v2 := br_2.cell1
  have br_w2 := br_2.cell2
  have e0 := o.len0 (b := true) rfl
  have br_f02 := br_2.frozen 0
  have br_f12 := br_2.frozen 1
  have br_f22 := br_2.frozen 2
  go_wp2_with fail
  refine bodyPost_ret (v := .tuple #[.agg #[.bool false, .slice none 0 0, .int .i64 0], .bool true]) (by simp [results, Tryz.results51, go_sem, (br_2.set0 (.bool false)).cell0, ((br_2.set0 (.bool false)).set1 (.slice none 0 0)).cell1, (((br_2.set0 (.bool false)).set1 (.slice none 0 0)).set2 (.int .i64 0)).cell2]) rfl (gdb_end true F2 (by omega) br_2 (cy_zero _))
theorem GDE.more {w w' : World} {q : Rat} {r : Int} {e : Ending} (h : GDE w q r e w') (o : Obj) : GDE w q r e (w'.alloc o) := by
  obtain ⟨s, A, n, c, x, he, hc, hb⟩ := h
  exact ⟨s, A, n, c, x, he, hc.alloc o, hb.alloc hb.size o⟩
theorem can_q (s : Bool) (A : Option Addr) (n c k X : Nat) (e : Int) (q : Rat) (w : World) (h : Nz w A n c k X) (hk : k ≤ 1000000) (hq : dvl s X e = q) (he : -1000000000 ≤ e ∧ e ≤ 1000000000) (hr : -1048576 ≤ de q ∧ de q ≤ 1048576) (T : Tb w) :
    Calls Tryz.prog 51 #[.bool s, .slice A n c, .int .i64 e] w (GDB w q true) := by
  by_cases h0 : X = 0
  · rw [h0, dvl_zero] at hq
    subst h0 hq
    exact can_zero s A n c k e w h hk T
  obtain ⟨p1, p2, p3, p4⟩ := dvl_parts s X e h0
  rw [hq] at p1 p2 p3 p4
  have hlt : tw X < 32 * k := tw_lt (by rw [← pw_pow]; exact h.lt) h0
  obtain ⟨z, hz⟩ : ∃ z, tw X = z := ⟨_, rfl⟩
  obtain ⟨O, hO⟩ : ∃ O, odp X = O := ⟨_, rfl⟩
  have hO0 : decide (O = 0) = false := by have := (odp_tw h0).1; simp; omega
  rw [hz] at hlt p3
  have z1 : z ≤ 32000000 := by omega
  have HO := hide hO
  have HZ := hide hz
  have H0 := hide hO0
  have HR := hide (show inr (e + (z : Int)) = true by rw [← p3]; exact inr_iff.2 hr)
  have HP := hide (show dm q = O ∧ s = decide (q < 0) ∧ e + (z : Int) = de q ∧ Isd q from ⟨p2.trans hO, p4.symm, p3.symm, p1⟩)
  have he1 := he.1
  have he2 := he.2
  clear h0 hq hr p1 p2 p3 p4 hz hO hO0 hlt he
  have h_1 := h.alloc EY0
  have T_1 := T.alloc EY0
  have br_1 : Sy ((w).alloc EY0) (w.heap.size) (.bool false) (.slice none 0 0) (.int .i64 0) := by have h_ := Sy.new (w) (.bool false) (.slice none 0 0) (.int .i64 0); exact h_
  have F1 := (Below.refl w.heap.size w).alloc (Nat.le_refl _) EY0
  go_enter Tryz.func51, Tryz.ntmps51
  have br_u1 := br_1.cell0
  have br_v1 := br_1.cell1
  have br_w1 := br_1.cell2
  go_wp2_with fail
  refine (odd_n _ _ _ _ X O z _ HO.out HZ.out h_1 hk T_1).mono ?_
  rintro e w2 ⟨A2, n2, c2, rfl, o, b2⟩
  have h_2 := h_1.below b2
  have T_2 := T_1.below b2
  have br_2 := br_1.below b2 br_1.lt
  have F2 := below_then F1 (Nat.le_refl _) b2
  have br_u2 := br_2.cell0
  have br_v2 := br_2.cell1
  have br_w2 := br_2.cell2
  have e0 := o.len0 H0.out
  go_wp2_with fail
  refine (inr_calls _ true _ HR.out).mono ?_
  rintro e w' ⟨rfl, rfl⟩
  have hc : Cy (w2) s A2 n2 c2 (e + (z : Int)) q := ⟨by rw [HP.out.1]; exact o.2, HP.out.2⟩
  have br_f02 := br_2.frozen 0
  have br_f12 := br_2.frozen 1
  have br_f22 := br_2.frozen 2
  go_wp2_with fail
  refine bodyPost_ret (v := .tuple #[.agg #[.bool s, .slice A2 n2 c2, .int .i64 (e + (z : Int))], .bool true]) (by simp [results, Tryz.results51, go_sem, (br_2.set0 (.bool s)).cell0, ((br_2.set0 (.bool s)).set1 (.slice A2 n2 c2)).cell1, (((br_2.set0 (.bool s)).set1 (.slice A2 n2 c2)).set2 (.int .i64 (e + (z : Int)))).cell2]) rfl (gdb_end true F2 (by omega) br_2 hc)
theorem can_bad (s : Bool) (A : Option Addr) (n c k X : Nat) (e : Int) (q : Rat) (w : World) (h : Nz w A n c k X) (hk : k ≤ 1000000) (hq : dvl s X e = q) (he : -1000000000 ≤ e ∧ e ≤ 1000000000) (h00 : q ≠ 0) (hr : de q < -1048576 ∨ 1048576 < de q) (T : Tb w) :
    Calls Tryz.prog 51 #[.bool s, .slice A n c, .int .i64 e] w (GDB w 0 false) := by
  by_cases h0 : X = 0
  · rw [h0, dvl_zero] at hq
    subst h0 hq
    exact absurd rfl h00
  obtain ⟨p1, p2, p3, p4⟩ := dvl_parts s X e h0
  rw [hq] at p1 p2 p3 p4
  have hlt : tw X < 32 * k := tw_lt (by rw [← pw_pow]; exact h.lt) h0
  obtain ⟨z, hz⟩ : ∃ z, tw X = z := ⟨_, rfl⟩
  obtain ⟨O, hO⟩ : ∃ O, odp X = O := ⟨_, rfl⟩
  have hO0 : decide (O = 0) = false := by have := (odp_tw h0).1; simp; omega
  rw [hz] at hlt p3
  have z1 : z ≤ 32000000 := by omega
  have HO := hide hO
  have HZ := hide hz
  have H0 := hide hO0
  have HR := hide (show inr (e + (z : Int)) = false by rw [← p3]; rw [← Bool.not_eq_true, inr_iff]; omega)
  have HP := hide (show dm q = O ∧ s = decide (q < 0) ∧ e + (z : Int) = de q ∧ Isd q from ⟨p2.trans hO, p4.symm, p3.symm, p1⟩)
  have he1 := he.1
  have he2 := he.2
  clear h0 hq hr p1 p2 p3 p4 hz hO hO0 hlt he h00
  have h_1 := h.alloc EY0
  have T_1 := T.alloc EY0
  have br_1 : Sy ((w).alloc EY0) (w.heap.size) (.bool false) (.slice none 0 0) (.int .i64 0) := by have h_ := Sy.new (w) (.bool false) (.slice none 0 0) (.int .i64 0); exact h_
  have F1 := (Below.refl w.heap.size w).alloc (Nat.le_refl _) EY0
  go_enter Tryz.func51, Tryz.ntmps51
  have br_u1 := br_1.cell0
  have br_v1 := br_1.cell1
  have br_w1 := br_1.cell2
  go_wp2_with fail
  refine (odd_n _ _ _ _ X O z _ HO.out HZ.out h_1 hk T_1).mono ?_
  rintro e w2 ⟨A2, n2, c2, rfl, o, b2⟩
  have h_2 := h_1.below b2
  have T_2 := T_1.below b2
  have br_2 := br_1.below b2 br_1.lt
  have F2 := below_then F1 (Nat.le_refl _) b2
  have br_u2 := br_2.cell0
  have br_v2 := br_2.cell1
  have br_w2 := br_2.cell2
  have e0 := o.len0 H0.out
  go_wp2_with fail
  refine (inr_calls _ false _ HR.out).mono ?_
  rintro e w' ⟨rfl, rfl⟩
  have br_f02 := br_2.frozen 0
  have br_f12 := br_2.frozen 1
  have br_f22 := br_2.frozen 2
  go_wp2_with fail
  refine bodyPost_ret (v := .tuple #[.agg #[.bool false, .slice none 0 0, .int .i64 0], .bool false]) (by simp [results, Tryz.results51, go_sem, (br_2.set0 (.bool false)).cell0, ((br_2.set0 (.bool false)).set1 (.slice none 0 0)).cell1, (((br_2.set0 (.bool false)).set1 (.slice none 0 0)).set2 (.int .i64 0)).cell2]) rfl (gdb_end false F2 (by omega) br_2 (cy_zero _))
end Go.Proofs.YtnddhohjfjlaiaaGreatDoor
