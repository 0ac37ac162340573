/-
  frac, few, small of the statements of dyadic.
-/
import Derived.Test.YthiapkalmmgliaaDoorP5
namespace Go.Proofs.YthiapkalmmgliaaDoor
open Go.RowKit
set_option linter.unusedVariables false
set_option linter.unusedSimpArgs false

theorem gq_alloc5 {w w' : World} {q : Rat} {e : Ending} (h : GQ w q e w') (o : Obj) : GQ w q e (w'.alloc o) := by
  obtain ⟨s, A, n, c, B, m, d, he, hc, hb⟩ := h
  exact ⟨s, A, n, c, B, m, d, he, hc.alloc o, hb.alloc hb.size o⟩
theorem lfrac5 (a b : Int) (q : Rat) (w : World) (hq : (a : Rat) / (b : Rat) = q) (h0 : b ≠ 0) (h1 : -9223372036854775808 ≤ a ∧ a ≤ 9223372036854775807) (h2 : -9223372036854775808 ≤ b ∧ b ≤ 9223372036854775807) : Calls Tryd.prog 41 #[.int .i64 a, .int .i64 b] w (GQ w q) := by
  have H1 := hide h1
  have H2 := hide h2
  have HQ := hide hq
  have H0 := hide h0
  clear h1 h2 hq h0
  have br_1 : Sq ((w).alloc EQ0) (w.heap.size) (.bool false) (.slice none 0 0) (.slice none 0 0) := by have h_ := Sq.new (w) (.bool false) (.slice none 0 0) (.slice none 0 0); exact h_
  have F1 := (Below.refl w.heap.size w).alloc (Nat.le_refl _) EQ0
  go_enter Tryd.func41, Tryd.ntmps41
  go_wp2_with fail
  refine (rfrac_q _ _ q _ HQ.out H0.out H1.out.1 H1.out.2 H2.out.1 H2.out.2).mono ?_
  rintro e w2 ⟨s2, A2, n2, c2, B2, m2, d2, rfl, x, b2⟩
  have br_2 := br_1.below b2 br_1.lt
  have F2 := below_then F1 (Nat.le_refl _) b2
  have br_u2 := br_2.cell0
  have br_v2 := br_2.cell1
  have br_w2 := br_2.cell2
  have br_f02 := br_2.frozen 0
  have br_f12 := br_2.frozen 1
  have br_f22 := br_2.frozen 2
  have lt_ := br_2.lt
  have ne_ := Nat.ne_of_lt br_2.lt
  go_wp2_with fail
  have z_ := (br_2.stor (u0 := .bool s2) (u1 := .slice A2 n2 c2) (u2 := .slice B2 m2 d2)).alloc (EQ s2 A2 n2 c2 B2 m2 d2)
  refine bodyPost_ret (v := .agg #[.bool s2, .slice A2 n2 c2, .slice B2 m2 d2]) (by simp [results, Tryd.results41, go_sem, z_.cell0, z_.cell1, z_.cell2, (br_2.set0 (.bool s2)).cell0, ((br_2.set0 (.bool s2)).set1 (.slice A2 n2 c2)).cell1, (((br_2.set0 (.bool s2)).set1 (.slice A2 n2 c2)).set2 (.slice B2 m2 d2)).cell2]) rfl (gq_alloc5 (gq_end F2 (by omega) br_2 x) _)
theorem cq_tiny5 {w : World} {s : Bool} {A B : Option Addr} {n c m d k : Nat} {q : Rat} (h : Cq w s A n c B m d q) (hs : Qs k q) : n ≤ k ∧ m ≤ k := ⟨h.ln hs.1, h.ld hs.2⟩
theorem few_yes (s : Bool) (A : Option Addr) (n c : Nat) (B : Option Addr) (m d : Nat) (w : World) (hn : n ≤ 3) (hm : m ≤ 3) : Calls Tryd.prog 11 #[.agg #[.bool s, .slice A n c, .slice B m d]] w (Asks w (.bool true)) := by
  have d1 : decide ((n : Int) ≤ 3) = true := by simp; omega
  have d2 : decide ((m : Int) ≤ 3) = true := by simp; omega
  have bx_1 : Sq ((w).alloc (EQ s A n c B m d)) (w.heap.size) (.bool s) (.slice A n c) (.slice B m d) := by have h_ := Sq.new (w) (.bool s) (.slice A n c) (.slice B m d); exact h_
  have F1 := (Below.refl w.heap.size w).alloc (Nat.le_refl _) (EQ s A n c B m d)
  go_enter Tryd.func11, Tryd.ntmps11
  go_wp2
  go_ret
  exact ⟨rfl, F1⟩
theorem few_no (s : Bool) (A : Option Addr) (n c : Nat) (B : Option Addr) (m d : Nat) (w : World) (h : ¬ (n ≤ 3 ∧ m ≤ 3)) : Calls Tryd.prog 11 #[.agg #[.bool s, .slice A n c, .slice B m d]] w (Asks w (.bool false)) := by
  by_cases hn : n ≤ 3
  · have d1 : decide ((n : Int) ≤ 3) = true := by simp; omega
    have d2 : decide ((m : Int) ≤ 3) = false := by simp; omega
    clear h
    have bx_1 : Sq ((w).alloc (EQ s A n c B m d)) (w.heap.size) (.bool s) (.slice A n c) (.slice B m d) := by have h_ := Sq.new (w) (.bool s) (.slice A n c) (.slice B m d); exact h_
    have F1 := (Below.refl w.heap.size w).alloc (Nat.le_refl _) (EQ s A n c B m d)
    go_enter Tryd.func11, Tryd.ntmps11
    go_wp2
    go_ret
    exact ⟨rfl, F1⟩
  · have d1 : decide ((n : Int) ≤ 3) = false := by simp; omega
    clear h
    have bx_1 : Sq ((w).alloc (EQ s A n c B m d)) (w.heap.size) (.bool s) (.slice A n c) (.slice B m d) := by have h_ := Sq.new (w) (.bool s) (.slice A n c) (.slice B m d); exact h_
    have F1 := (Below.refl w.heap.size w).alloc (Nat.le_refl _) (EQ s A n c B m d)
    go_enter Tryd.func11, Tryd.ntmps11
    go_wp2
    go_ret
    exact ⟨rfl, F1⟩
theorem ryvalid_at (s : Bool) (A : Option Addr) (n c : Nat) (e : Int) (xs : List Nat) (r : Bool) (w : World) (hr : vb s xs e = r) (h : Rd w A n c xs) (hn : n ≤ 1048576) :
    Calls Tryd.prog 19 #[.agg #[.bool s, .slice A n c, .int .i64 e]] w (Asks w (.bool r)) := by
  subst hr
  exact ryvalid s A n c xs e w h hn
theorem yvalid_at (s : Bool) (A : Option Addr) (n c : Nat) (e : Int) (xs : List Nat) (r : Bool) (w : World) (hr : vb s xs e = r) (h : Rd w A n c xs) (hn : n ≤ 100) :
    Calls Tryd.prog 15 #[.agg #[.bool s, .slice A n c, .int .i64 e]] w (Asks w (.bool r)) := by
  subst hr
  exact yvalid_b s A n c e xs w h hn
theorem small_v (s : Bool) (A : Option Addr) (n c : Nat) (e : Int) (xs : List Nat) (r : Bool) (w : World) (h : Rd w A n c xs) (hn : n ≤ 3) (he : -200 ≤ e ∧ e ≤ 200) (hv : vb s xs e = r) : Calls Tryd.prog 20 #[.agg #[.bool s, .slice A n c, .int .i64 e]] w (Asks w (.bool r)) := by
  have d1 : decide ((n : Int) ≤ 3) = true := by simp; omega
  have d2 : decide (-200 ≤ e) = true := by simp; omega
  have d3 : decide (e ≤ 200) = true := by simp; omega
  have HV := hide hv
  have n1 : n ≤ 1048576 := by omega
  clear hv hn he
  have h_1 := h.alloc (EY s A n c e)
  have bx_1 : Sy ((w).alloc (EY s A n c e)) (w.heap.size) (.bool s) (.slice A n c) (.int .i64 e) := by have h_ := Sy.new (w) (.bool s) (.slice A n c) (.int .i64 e); exact h_
  have F1 := (Below.refl w.heap.size w).alloc (Nat.le_refl _) (EY s A n c e)
  go_enter Tryd.func20, Tryd.ntmps20
  have bx_u1 := bx_1.cell0
  have bx_v1 := bx_1.cell1
  have bx_w1 := bx_1.cell2
  go_wp2_with fail
  refine (ryvalid_at _ _ _ _ _ xs r _ HV.out h_1 n1).mono ?_
  rintro e w2 ⟨rfl, b2⟩
  have h_2 := h_1.below b2
  have bx_2 := bx_1.below b2 bx_1.lt
  have F2 := below_then F1 (Nat.le_refl _) b2
  have bx_u2 := bx_2.cell0
  have bx_v2 := bx_2.cell1
  have bx_w2 := bx_2.cell2
  go_wp2
  go_ret
  exact ⟨rfl, F2⟩
theorem small_no (s : Bool) (A : Option Addr) (n c : Nat) (e : Int) (xs : List Nat) (w : World) (h : Rd w A n c xs) (hh : ¬ (n ≤ 3 ∧ (-200 ≤ e ∧ e ≤ 200) ∧ vb s xs e = true)) : Calls Tryd.prog 20 #[.agg #[.bool s, .slice A n c, .int .i64 e]] w (Asks w (.bool false)) := by
  by_cases hn : n ≤ 3
  · have d1 : decide ((n : Int) ≤ 3) = true := by simp; omega
    by_cases he : -200 ≤ e
    · have d2 : decide (-200 ≤ e) = true := by simp; omega
      by_cases he2 : e ≤ 200
      · refine small_v s A n c e xs false w h hn ⟨he, he2⟩ ?_
        rcases Bool.eq_false_or_eq_true (vb s xs e) with hv | hv
        · exact absurd ⟨hn, ⟨he, he2⟩, hv⟩ hh
        · exact hv
      · have d3 : decide (e ≤ 200) = false := by simp; omega
        clear hh
        have bx_1 : Sy ((w).alloc (EY s A n c e)) (w.heap.size) (.bool s) (.slice A n c) (.int .i64 e) := by have h_ := Sy.new (w) (.bool s) (.slice A n c) (.int .i64 e); exact h_
        have F1 := (Below.refl w.heap.size w).alloc (Nat.le_refl _) (EY s A n c e)
        go_enter Tryd.func20, Tryd.ntmps20
        go_wp2
        go_ret
        exact ⟨rfl, F1⟩
    · have d2 : decide (-200 ≤ e) = false := by simp; omega
      clear hh
      have bx_1 : Sy ((w).alloc (EY s A n c e)) (w.heap.size) (.bool s) (.slice A n c) (.int .i64 e) := by have h_ := Sy.new (w) (.bool s) (.slice A n c) (.int .i64 e); exact h_
      have F1 := (Below.refl w.heap.size w).alloc (Nat.le_refl _) (EY s A n c e)
      go_enter Tryd.func20, Tryd.ntmps20
      go_wp2
      go_ret
      exact ⟨rfl, F1⟩
  · have d1 : decide ((n : Int) ≤ 3) = false := by simp; omega
    clear hh
    have bx_1 : Sy ((w).alloc (EY s A n c e)) (w.heap.size) (.bool s) (.slice A n c) (.int .i64 e) := by have h_ := Sy.new (w) (.bool s) (.slice A n c) (.int .i64 e); exact h_
    have F1 := (Below.refl w.heap.size w).alloc (Nat.le_refl _) (EY s A n c e)
    go_enter Tryd.func20, Tryd.ntmps20
    go_wp2
    go_ret
    exact ⟨rfl, F1⟩
instance isd_dec (q : Rat) : Decidable (Isd q) := inferInstanceAs (Decidable (q.den = 2 ^ q.den.log2))
theorem cy_lit {w : World} {A : Option Addr} {c : Nat} (m : Nat) (e : Int) (q : Rat) (h : Rd w A 1 c [m]) (hq : decide (dm q = m ∧ 0 < m ∧ decide (q < 0) = false ∧ e = de q ∧ Isd q) = true) : Cy w false A 1 c e q := by
  obtain ⟨h1, h0, h2, h3, h4⟩ := of_decide_eq_true hq
  have h5 := dg_val h.sm
  have h6 : val [m] = m := by simp [val]
  have h7 : tlen [m] = 1 := by
    have := tlen_dg m
    simp [tlen]
    omega
  rw [h6, h7] at h5
  refine ⟨?_, h2.symm, h3, h4⟩
  rw [h1, h5]
  exact h
theorem lits : decide (dm (1/4 : Rat) = 1 ∧ 0 < 1 ∧ decide ((1/4 : Rat) < 0) = false ∧ (-2 : Int) = de (1/4) ∧ Isd (1/4)) = true ∧ decide (dm (6 : Rat) = 3 ∧ 0 < 3 ∧ decide ((6 : Rat) < 0) = false ∧ (1 : Int) = de 6 ∧ Isd 6) = true ∧ decide (dm (3/8 : Rat) = 3 ∧ 0 < 3 ∧ decide ((3/8 : Rat) < 0) = false ∧ (-3 : Int) = de (3/8) ∧ Isd (3/8)) = true ∧ tq (1/3) 2 false = 1/4 ∧ tq 5 2 true = 6 ∧ ¬ Isd (1/3) ∧ sz ((1/4 : Rat) - 6).num = -1 ∧ vb false [2] 0 = false := by
  refine ⟨?_, ?_, ?_, ?_, ?_, ?_, ?_, ?_⟩ <;> decide +kernel
end Go.Proofs.YthiapkalmmgliaaDoor
