/-
  frac, fair and power of the statements of decimal.
-/
import Derived.Test.YtjpchbcenbjibaaDoorP4
namespace Go.Proofs.YtjpchbcenbjibaaDoor
open Go.RowKit
set_option linter.unusedVariables false
set_option linter.unusedSimpArgs false

theorem gq_alloc4 {w w' : World} {q : Rat} {e : Ending} (h : GQ w q e w') (o : Obj) : GQ w q e (w'.alloc o) := by
  obtain ⟨s, A, n, c, B, m, d, he, hc, hb⟩ := h
  exact ⟨s, A, n, c, B, m, d, he, hc.alloc o, hb.alloc hb.size o⟩
theorem lfrac4 (a b : Int) (q : Rat) (w : World) (hq : (a : Rat) / (b : Rat) = q) (h0 : b ≠ 0) (h1 : -9223372036854775808 ≤ a ∧ a ≤ 9223372036854775807) (h2 : -9223372036854775808 ≤ b ∧ b ≤ 9223372036854775807) : Calls Tryd.prog 15 #[.int .i64 a, .int .i64 b] w (GQ w q) := by
  have H1 := hide h1
  have H2 := hide h2
  have HQ := hide hq
  have H0 := hide h0
  clear h1 h2 hq h0
  have br_1 : Sq ((w).alloc EQ0) (w.heap.size) (.bool false) (.slice none 0 0) (.slice none 0 0) := by have h_ := Sq.new (w) (.bool false) (.slice none 0 0) (.slice none 0 0); exact h_
  have F1 := (Below.refl w.heap.size w).alloc (Nat.le_refl _) EQ0
  go_enter Tryd.func15, Tryd.ntmps15
  go_wp2_with fail
  refine (rfrac_q _ _ q _ HQ.out H0.out H1.out.1 H1.out.2 H2.out.1 H2.out.2).mono ?_
  rintro e w2 ⟨s2, A2, n2, c2, B2, m2, d2, rfl, x, b2⟩
  have br_2 := br_1.below b2 br_1.lt
  have F2 := below_then F1 (Nat.le_refl _) b2
  have br_u2 := br_2.cell0
  have br_v2 := br_2.cell1
  have br_w2 := br_2.cell2
  have br_f02 := br_2.frozen 0
  have br_f12 := br_2.frozen 1
  have br_f22 := br_2.frozen 2
  have lt_ := br_2.lt
  have ne_ := Nat.ne_of_lt br_2.lt
  go_wp2_with fail
  have z_ := (br_2.stor (u0 := .bool s2) (u1 := .slice A2 n2 c2) (u2 := .slice B2 m2 d2)).alloc (EQ s2 A2 n2 c2 B2 m2 d2)
  refine bodyPost_ret (v := .agg #[.bool s2, .slice A2 n2 c2, .slice B2 m2 d2]) (by simp [results, Tryd.results15, go_sem, z_.cell0, z_.cell1, z_.cell2, (br_2.set0 (.bool s2)).cell0, ((br_2.set0 (.bool s2)).set1 (.slice A2 n2 c2)).cell1, (((br_2.set0 (.bool s2)).set1 (.slice A2 n2 c2)).set2 (.slice B2 m2 d2)).cell2]) rfl (gq_alloc4 (gq_end F2 (by omega) br_2 x) _)
theorem cq_valid4 {w : World} {s : Bool} {A B : Option Addr} {n c m d : Nat} {q : Rat} (h : Cq w s A n c B m d q) : ((s == decide (q.num < 0)) && decide (dg q.num.natAbs = dg q.num.natAbs) && decide (qd q = qd q)) = true := by
  rw [h.2.2]; simp
theorem cq_tiny {w : World} {s : Bool} {A B : Option Addr} {n c m d k : Nat} {q : Rat} (h : Cq w s A n c B m d q) (hs : Qs k q) : n ≤ k ∧ m ≤ k := ⟨h.ln hs.1, h.ld hs.2⟩
theorem fair_yes (s : Bool) (A : Option Addr) (n c : Nat) (B : Option Addr) (m d : Nat) (q : Rat) (w : World) (h : Cq w s A n c B m d q) (hn : n ≤ 8) (hm : m ≤ 8) : Calls Tryd.prog 8 #[.agg #[.bool s, .slice A n c, .slice B m d]] w (Asks w (.bool true)) := by
  have d1 : decide ((n : Int) ≤ 8) = true := by simp; omega
  have d2 : decide ((m : Int) ≤ 8) = true := by simp; omega
  have hx := h.1
  have hy := h.2.1
  have hq : rv s (dg q.num.natAbs) (qd q) = q := by
    rw [rv, rden_qd, show iv s (dg q.num.natAbs) = q.num from ?_, Rat.mkRat_self]
    rw [iv, val_dg, h.2.2]
    split <;> rename_i h0 <;> rw [decide_eq_true_eq] at h0 <;> omega
  have hs := h.iq.size hn hm (by omega)
  have HQ := hide hq
  have n1 : n ≤ 16384 := by omega
  have n2 : m ≤ 16384 := by omega
  have k1 : 8 ≤ 16384 := by omega
  have s1 : q.num.natAbs < pw 8 := hs.1
  have s2 : q.den < pw 8 := hs.2
  clear hq hs
  have hx_1 := hx.alloc (EQ s A n c B m d)
  have hy_1 := hy.alloc (EQ s A n c B m d)
  have bx_1 : Sq ((w).alloc (EQ s A n c B m d)) (w.heap.size) (.bool s) (.slice A n c) (.slice B m d) := by have h_ := Sq.new (w) (.bool s) (.slice A n c) (.slice B m d); exact h_
  have F1 := (Below.refl w.heap.size w).alloc (Nat.le_refl _) (EQ s A n c B m d)
  go_enter Tryd.func8, Tryd.ntmps8
  go_wp2_with fail
  refine (rvalid_q _ _ _ _ _ _ _ _ _ q true _ (cq_valid4 h) HQ.out hx_1 hy_1 n1 n2 8 k1 s1 s2).mono ?_
  rintro e w2 ⟨rfl, b2⟩
  have hx_2 := hx_1.below b2
  have hy_2 := hy_1.below b2
  have bx_2 := bx_1.below b2 bx_1.lt
  have F2 := below_then F1 (Nat.le_refl _) b2
  have bx_u2 := bx_2.cell0
  have bx_v2 := bx_2.cell1
  have bx_w2 := bx_2.cell2
  go_wp2
  go_ret
  exact ⟨rfl, F2⟩
theorem fair_no (s : Bool) (A : Option Addr) (n c : Nat) (B : Option Addr) (m d : Nat) (xs ys : List Nat) (w : World) (hx : Rd w A n c xs) (hy : Rd w B m d ys) (h : ¬ (n ≤ 8 ∧ m ≤ 8 ∧ Cq w s A n c B m d (rv s xs ys))) : Calls Tryd.prog 8 #[.agg #[.bool s, .slice A n c, .slice B m d]] w (Asks w (.bool false)) := by
  by_cases hn : n ≤ 8
  · have d1 : decide ((n : Int) ≤ 8) = true := by simp; omega
    by_cases hm : m ≤ 8
    · have d2 : decide ((m : Int) ≤ 8) = true := by simp; omega
      obtain ⟨q, hq⟩ : ∃ q, rv s xs ys = q := ⟨_, rfl⟩
      have hI : Iq w s A n c B m d q := ⟨xs, ys, hx, hy, hq⟩
      have hs := hI.size hn hm (by omega)
      have HV := hide (show ((s == decide (q.num < 0)) && decide (xs = dg q.num.natAbs) && decide (ys = qd q)) = false by
        rcases Bool.eq_false_or_eq_true ((s == decide (q.num < 0)) && decide (xs = dg q.num.natAbs) && decide (ys = qd q)) with e | e
        · exfalso
          simp only [Bool.and_eq_true, beq_iff_eq, decide_eq_true_eq] at e
          refine h ⟨hn, hm, ?_⟩
          rw [hq]
          exact ⟨e.1.2 ▸ hx, e.2 ▸ hy, e.1.1⟩
        · exact e)
      have HQ := hide hq
      have n1 : n ≤ 16384 := by omega
      have n2 : m ≤ 16384 := by omega
      have k1 : 8 ≤ 16384 := by omega
      have s1 : q.num.natAbs < pw 8 := hs.1
      have s2 : q.den < pw 8 := hs.2
      clear hq h hs hI
      have hx_1 := hx.alloc (EQ s A n c B m d)
      have hy_1 := hy.alloc (EQ s A n c B m d)
      have bx_1 : Sq ((w).alloc (EQ s A n c B m d)) (w.heap.size) (.bool s) (.slice A n c) (.slice B m d) := by have h_ := Sq.new (w) (.bool s) (.slice A n c) (.slice B m d); exact h_
      have F1 := (Below.refl w.heap.size w).alloc (Nat.le_refl _) (EQ s A n c B m d)
      go_enter Tryd.func8, Tryd.ntmps8
      go_wp2_with fail
      refine (rvalid_q _ _ _ _ _ _ _ _ _ q false _ HV.out HQ.out hx_1 hy_1 n1 n2 8 k1 s1 s2).mono ?_
      rintro e w2 ⟨rfl, b2⟩
      have hx_2 := hx_1.below b2
      have hy_2 := hy_1.below b2
      have bx_2 := bx_1.below b2 bx_1.lt
      have F2 := below_then F1 (Nat.le_refl _) b2
      have bx_u2 := bx_2.cell0
      have bx_v2 := bx_2.cell1
      have bx_w2 := bx_2.cell2
      go_wp2
      go_ret
      exact ⟨rfl, F2⟩
    · have d2 : decide ((m : Int) ≤ 8) = false := by simp; omega
      clear h
      have bx_1 : Sq ((w).alloc (EQ s A n c B m d)) (w.heap.size) (.bool s) (.slice A n c) (.slice B m d) := by have h_ := Sq.new (w) (.bool s) (.slice A n c) (.slice B m d); exact h_
      have F1 := (Below.refl w.heap.size w).alloc (Nat.le_refl _) (EQ s A n c B m d)
      go_enter Tryd.func8, Tryd.ntmps8
      go_wp2
      go_ret
      exact ⟨rfl, F1⟩
  · have d1 : decide ((n : Int) ≤ 8) = false := by simp; omega
    clear h
    have bx_1 : Sq ((w).alloc (EQ s A n c B m d)) (w.heap.size) (.bool s) (.slice A n c) (.slice B m d) := by have h_ := Sq.new (w) (.bool s) (.slice A n c) (.slice B m d); exact h_
    have F1 := (Below.refl w.heap.size w).alloc (Nat.le_refl _) (EQ s A n c B m d)
    go_enter Tryd.func8, Tryd.ntmps8
    go_wp2
    go_ret
    exact ⟨rfl, F1⟩
theorem ten_q (i : Nat) : Qs (i + 1) (((10 ^ i : Nat) : Rat)) := by
  have h := nat_parts (10 ^ i)
  refine ⟨by rw [h.1]; exact ten_lt_pw i, by rw [h.2]; exact Nat.lt_of_lt_of_le (by decide : 1 < pw 1) (pw_mono (by omega))⟩
theorem ten_step (i : Nat) : ((10 ^ i : Nat) : Rat) * ((10 : Int) : Rat) = ((10 ^ (i + 1) : Nat) : Rat) := by
  rw [Nat.pow_succ, Rat.natCast_mul]; rfl
theorem ten_1 : Qs 1 ((10 : Int) : Rat) := ⟨by decide +kernel, by decide +kernel⟩
end Go.Proofs.YtjpchbcenbjibaaDoor
