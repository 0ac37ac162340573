/-
  frac, fair and power of the statements of decimal.
-/
import Derived.Test.YtjpchbcenbjibaaGreatDoorP4
namespace Go.Proofs.YtjpchbcenbjibaaGreatDoor
open Go.RowKit
set_option linter.unusedVariables false
set_option linter.unusedSimpArgs false

theorem gq_alloc4 {w w' : World} {q : Rat} {e : Ending} (h : GQ w q e w') (o : Obj) : GQ w q e (w'.alloc o) := by
  obtain ⟨s, A, n, c, B, m, d, he, hc, hb⟩ := h
  exact ⟨s, A, n, c, B, m, d, he, hc.alloc o, hb.alloc hb.size o⟩
theorem lfrac4 (a b : Int) (q : Rat) (w : World) (hq : (a : Rat) / (b : Rat) = q) (h0 : b ≠ 0) (h1 : -9223372036854775808 ≤ a ∧ a ≤ 9223372036854775807) (h2 : -9223372036854775808 ≤ b ∧ b ≤ 9223372036854775807) : Calls Tryz.prog 18 #[.int .i64 a, .int .i64 b] w (GQ w q) := by
  have H1 := hide h1
  have H2 := hide h2
  have HQ := hide hq
  have H0 := hide h0
  clear h1 h2 hq h0
  have br_1 : Sq ((w).alloc EQ0) (w.heap.size) (.bool false) (.slice none 0 0) (.slice none 0 0) := by have h_ := Sq.new (w) (.bool false) (.slice none 0 0) (.slice none 0 0); exact h_
  have F1 := (Below.refl w.heap.size w).alloc (Nat.le_refl _) EQ0
  go_enter Tryz.func18, Tryz.ntmps18
  go_wp2_with fail
  refine (rfrac_q _ _ q _ HQ.out H0.out H1.out.1 H1.out.2 H2.out.1 H2.out.2).mono ?_
  rintro e w2 ⟨s2, A2, n2, c2, B2, m2, d2, rfl, x, b2⟩
  have br_2 := br_1.below b2 br_1.lt
  have F2 := below_then F1 (Nat.le_refl _) b2
  have br_u2 := br_2.cell0
  have br_v2 := br_2.cell1
  have br_w2 := br_2.cell2
  have br_f02 := br_2.frozen 0
  have br_f12 := br_2.frozen 1
  have br_f22 := br_2.frozen 2
  have lt_ := br_2.lt
  have ne_ := Nat.ne_of_lt br_2.lt
  go_wp2_with fail
  have z_ := (br_2.stor (u0 := .bool s2) (u1 := .slice A2 n2 c2) (u2 := .slice B2 m2 d2)).alloc (EQ s2 A2 n2 c2 B2 m2 d2)
  refine bodyPost_ret (v := .agg #[.bool s2, .slice A2 n2 c2, .slice B2 m2 d2]) (by simp [results, Tryz.results18, go_sem, z_.cell0, z_.cell1, z_.cell2, (br_2.set0 (.bool s2)).cell0, ((br_2.set0 (.bool s2)).set1 (.slice A2 n2 c2)).cell1, (((br_2.set0 (.bool s2)).set1 (.slice A2 n2 c2)).set2 (.slice B2 m2 d2)).cell2]) rfl (gq_alloc4 (gq_end F2 (by omega) br_2 x) _)
theorem cq_valid4 {w : World} {s : Bool} {A B : Option Addr} {n c m d : Nat} {q : Rat} (h : Cq w s A n c B m d q) : ((s == decide (q.num < 0)) && decide (dg q.num.natAbs = dg q.num.natAbs) && decide (qd q = qd q)) = true := by
  rw [h.2.2]; simp
theorem cq_tiny {w : World} {s : Bool} {A B : Option Addr} {n c m d k : Nat} {q : Rat} (h : Cq w s A n c B m d q) (hs : Qs k q) : n ≤ k ∧ m ≤ k := ⟨h.ln hs.1, h.ld hs.2⟩
theorem fair_yes (s : Bool) (A : Option Addr) (n c : Nat) (B : Option Addr) (m d : Nat) (q : Rat) (w : World) (h : Cq w s A n c B m d q) (hn : n ≤ 8) (hm : m ≤ 8) : Calls Tryz.prog 7 #[.agg #[.bool s, .slice A n c, .slice B m d]] w (Asks w (.bool true)) := by
  have d1 : decide ((n : Int) ≤ 8) = true := by simp; omega
  have d2 : decide ((m : Int) ≤ 8) = true := by simp; omega
  have hx := h.1
  have hy := h.2.1
  have hq : rv s (dg q.num.natAbs) (qd q) = q := by
    rw [rv, rden_qd, show iv s (dg q.num.natAbs) = q.num from ?_, Rat.mkRat_self]
    rw [iv, val_dg, h.2.2]
    split <;> rename_i h0 <;> rw [decide_eq_true_eq] at h0 <;> omega
  have hs := h.iq.size hn hm (by omega)
  have HQ := hide hq
  have n1 : n ≤ 16384 := by omega
  have n2 : m ≤ 16384 := by omega
  have k1 : 8 ≤ 16384 := by omega
  have s1 : q.num.natAbs < pw 8 := hs.1
  have s2 : q.den < pw 8 := hs.2
  clear hq hs
  have hx_1 := hx.alloc (EQ s A n c B m d)
  have hy_1 := hy.alloc (EQ s A n c B m d)
  have bx_1 : Sq ((w).alloc (EQ s A n c B m d)) (w.heap.size) (.bool s) (.slice A n c) (.slice B m d) := by have h_ := Sq.new (w) (.bool s) (.slice A n c) (.slice B m d); exact h_
  have F1 := (Below.refl w.heap.size w).alloc (Nat.le_refl _) (EQ s A n c B m d)
  go_enter Tryz.func7, Tryz.ntmps7
  go_wp2_with fail
  refine (rvalid_q _ _ _ _ _ _ _ _ _ q true _ (cq_valid4 h) HQ.out hx_1 hy_1 n1 n2 8 k1 s1 s2).mono ?_
  rintro e w2 ⟨rfl, b2⟩
  have hx_2 := hx_1.below b2
  have hy_2 := hy_1.below b2
  have bx_2 := bx_1.below b2 bx_1.lt
  have F2 := below_then F1 (Nat.le_refl _) b2
  have bx_u2 := bx_2.cell0
  have bx_v2 := bx_2.cell1
  have bx_w2 := bx_2.cell2
  go_wp2
  go_ret
  exact ⟨rfl, F2⟩
theorem fair_no (s : Bool) (A : Option Addr) (n c : Nat) (B : Option Addr) (m d : Nat) (xs ys : List Nat) (w : World) (hx : Rd w A n c xs) (hy : Rd w B m d ys) (h : ¬ (n ≤ 8 ∧ m ≤ 8 ∧ Cq w s A n c B m d (rv s xs ys))) : Calls Tryz.prog 7 #[.agg #[.bool s, .slice A n c, .slice B m d]] w (Asks w (.bool false)) := by
  by_cases hn : n ≤ 8
  · have d1 : decide ((n : Int) ≤ 8) = true := by simp; omega
    by_cases hm : m ≤ 8
    · have d2 : decide ((m : Int) ≤ 8) = true := by simp; omega
      obtain ⟨q, hq⟩ : ∃ q, rv s xs ys = q := ⟨_, rfl⟩
      have hI : Iq w s A n c B m d q := ⟨xs, ys, hx, hy, hq⟩
      have hs := hI.size hn hm (by omega)
      have HV := hide (show ((s == decide (q.num < 0)) && decide (xs = dg q.num.natAbs) && decide (ys = qd q)) = false by
        rcases Bool.eq_false_or_eq_true ((s == decide (q.num < 0)) && decide (xs = dg q.num.natAbs) && decide (ys = qd q)) with e | e
        · exfalso
          simp only [Bool.and_eq_true, beq_iff_eq, decide_eq_true_eq] at e
          refine h ⟨hn, hm, ?_⟩
          rw [hq]
          exact ⟨e.1.2 ▸ hx, e.2 ▸ hy, e.1.1⟩
        · exact e)
      have HQ := hide hq
      have n1 : n ≤ 16384 := by omega
      have n2 : m ≤ 16384 := by omega
      have k1 : 8 ≤ 16384 := by omega
      have s1 : q.num.natAbs < pw 8 := hs.1
      have s2 : q.den < pw 8 := hs.2
      clear hq h hs hI
      have hx_1 := hx.alloc (EQ s A n c B m d)
      have hy_1 := hy.alloc (EQ s A n c B m d)
      have bx_1 : Sq ((w).alloc (EQ s A n c B m d)) (w.heap.size) (.bool s) (.slice A n c) (.slice B m d) := by have h_ := Sq.new (w) (.bool s) (.slice A n c) (.slice B m d); exact h_
      have F1 := (Below.refl w.heap.size w).alloc (Nat.le_refl _) (EQ s A n c B m d)
      go_enter Tryz.func7, Tryz.ntmps7
      go_wp2_with fail
      refine (rvalid_q _ _ _ _ _ _ _ _ _ q false _ HV.out HQ.out hx_1 hy_1 n1 n2 8 k1 s1 s2).mono ?_
      rintro e w2 ⟨rfl, b2⟩
      have hx_2 := hx_1.below b2
      have hy_2 := hy_1.below b2
      have bx_2 := bx_1.below b2 bx_1.lt
      have F2 := below_then F1 (Nat.le_refl _) b2
      have bx_u2 := bx_2.cell0
      have bx_v2 := bx_2.cell1
      have bx_w2 := bx_2.cell2
      go_wp2
      go_ret
      exact ⟨rfl, F2⟩
    · have d2 : decide ((m : Int) ≤ 8) = false := by simp; omega
      clear h
      have bx_1 : Sq ((w).alloc (EQ s A n c B m d)) (w.heap.size) (.bool s) (.slice A n c) (.slice B m d) := by have h_ := Sq.new (w) (.bool s) (.slice A n c) (.slice B m d); exact h_
      have F1 := (Below.refl w.heap.size w).alloc (Nat.le_refl _) (EQ s A n c B m d)
      go_enter Tryz.func7, Tryz.ntmps7
      go_wp2
      go_ret
      exact ⟨rfl, F1⟩
  · have d1 : decide ((n : Int) ≤ 8) = false := by simp; omega
    clear h
    have bx_1 : Sq ((w).alloc (EQ s A n c B m d)) (w.heap.size) (.bool s) (.slice A n c) (.slice B m d) := by have h_ := Sq.new (w) (.bool s) (.slice A n c) (.slice B m d); exact h_
    have F1 := (Below.refl w.heap.size w).alloc (Nat.le_refl _) (EQ s A n c B m d)
    go_enter Tryz.func7, Tryz.ntmps7
    go_wp2
    go_ret
    exact ⟨rfl, F1⟩
theorem ten_q (i : Nat) : Qs (i + 1) (((10 ^ i : Nat) : Rat)) := by
  have h := nat_parts (10 ^ i)
  refine ⟨by rw [h.1]; exact ten_lt_pw i, by rw [h.2]; exact Nat.lt_of_lt_of_le (by decide : 1 < pw 1) (pw_mono (by omega))⟩
theorem ten_step (i : Nat) : ((10 ^ i : Nat) : Rat) * ((10 : Int) : Rat) = ((10 ^ (i + 1) : Nat) : Rat) := by
  rw [Nat.pow_succ, Rat.natCast_mul]; rfl
theorem ten_1 : Qs 1 ((10 : Int) : Rat) := ⟨by decide +kernel, by decide +kernel⟩
set_option maxHeartbeats 1000000 in
theorem lpower (N : Nat) (w : World) (hN : N ≤ 1000) : Calls Tryz.prog 13 #[.int .i64 (N : Int)] w (GQ w (((10 ^ N : Nat) : Rat))) := by
  have hTEN := ten_1
  have n3 : 1 ≤ 4000 := by omega
  have br_1 : Sq ((w).alloc EQ0) (w.heap.size) (.bool false) (.slice none 0 0) (.slice none 0 0) := by have h_ := Sq.new (w) (.bool false) (.slice none 0 0) (.slice none 0 0); exact h_
  have F1 := (Below.refl w.heap.size w).alloc (Nat.le_refl _) EQ0
  go_enter Tryz.func13, Tryz.ntmps13
  go_wp2_with fail
  refine (rof_q 1 _ (by omega) (by omega)).mono ?_
  rintro e w2 ⟨s2, A2, n2, c2, B2, m2, d2, rfl, one, b2⟩
  have br_2 := br_1.below b2 br_1.lt
  have F2 := below_then F1 (Nat.le_refl _) b2
  have br_u2 := br_2.cell0
  have br_v2 := br_2.cell1
  have br_w2 := br_2.cell2
  have gl := br_2.lt
  have lt_bp_br := br_2.lt
  have one_3 := one.alloc (EQ s2 A2 n2 c2 B2 m2 d2)
  have br_3 := br_2.alloc (EQ s2 A2 n2 c2 B2 m2 d2)
  have bp_3 : Sq ((w2).alloc (EQ s2 A2 n2 c2 B2 m2 d2)) (w2.heap.size) (.bool s2) (.slice A2 n2 c2) (.slice B2 m2 d2) := by have h_ := Sq.new (w2) (.bool s2) (.slice A2 n2 c2) (.slice B2 m2 d2); exact h_
  have F3 := F2.alloc F2.size (EQ s2 A2 n2 c2 B2 m2 d2)
  have br_u3 := br_3.cell0
  have br_v3 := br_3.cell1
  have br_w3 := br_3.cell2
  have bp_u3 := bp_3.cell0
  have bp_v3 := bp_3.cell1
  have bp_w3 := bp_3.cell2
  go_wp2_with fail
  go_loopw [4] (fun iv wr => ∃ (i : Nat) (s' : Bool) (A' : Option Addr) (n' c' : Nat) (B' : Option Addr) (m' d' : Nat), i ≤ N ∧ iv = .int .i64 (i : Int) ∧ Sq wr w2.heap.size (.bool s') (.slice A' n' c') (.slice B' m' d') ∧ Cq wr s' A' n' c' B' m' d' (((10 ^ i : Nat) : Rat)) ∧ Sq wr w.heap.size (.bool false) (.slice none 0 0) (.slice none 0 0) ∧ Below w.heap.size w wr) (fun iv _ => N - (intOf iv).toNat)
  case atStart => exact ⟨0, _, _, _, _, _, _, _, Nat.zero_le _, rfl, bp_3, one_3.to (by rfl), br_3, F3⟩
  case round =>
    obtain ⟨i, s', A', n', c', B', m', d', hi, rfl, hp, hq, hr, hF⟩ := hrel
    have gl2 : w.heap.size < w2.heap.size := gl
    by_cases hlt : i < N
    · have sz := cq_tiny hq (ten_q i)
      have n1 : n' ≤ 4000 := by omega
      have n2 : m' ≤ 4000 := by omega
      have sz2 := ten_q i
      have p0 := hp.cell0
      have p1 := hp.cell1
      have p2 := hp.cell2
      have f0 := hp.frozen 0
      have f1 := hp.frozen 1
      have f2 := hp.frozen 2
      go_wp2_with fail
      have hp1 := hp.drew
      have hq1 := hq.drew
      have hr1 := hr.drew
      have hF1 := hF.drew
      have glp := hp.lt
      have glr := hr.lt
      go_region_with (first
        | (go_at_call 14; (with_reducible refine (rof_q 10 _ (by omega) (by omega)).mono ?_); rintro e w8 ⟨s8, A8, n8, c8, B8, m8, d8, rfl, t8, b8⟩; have hp2 := hp1.below b8 hp1.lt; have hq2 := hq1.below b8; have hr2 := hr1.below b8 hr1.lt; have hF2 := below_then hF1 (Nat.le_refl _) b8; have p20 := hp2.cell0; have p21 := hp2.cell1; have p22 := hp2.cell2; have sz8 := cq_tiny t8 ten_1; have n81 := Nat.le_trans sz8.1 n3; have n82 := Nat.le_trans sz8.2 n3)
        | (go_at_call 11; (with_reducible refine (rmul_q _ _ _ _ _ _ _ _ _ _ _ _ _ _ _ _ _ _ (ten_step i) hq2.iq t8.iq n1 n2 n81 n82).mono ?_); rintro e w9 ⟨s9, A9, n9, c9, B9, m9, d9, rfl, t9, b9⟩; have hp3 := hp2.below b9 hp2.lt; have hr3 := hr2.below b9 hr2.lt; have hF3 := below_then hF2 (Nat.le_refl _) b9; have q20 := hp3.cell0; have q21 := hp3.cell1; have q22 := hp3.cell2; have g0 := hp3.frozen 0; have g1 := hp3.frozen 1; have g2 := hp3.frozen 2)
        | fail)
      all_goals go_wp2_with fail
      all_goals
        go_roundw
        case rel => exact ⟨i + 1, s9, A9, n9, c9, B9, m9, d9, by omega, by go_num, hp3.stor, t9.storQ hp3 _ _ _, hr3.past (Nat.ne_of_lt gl2), below_storQ hF3 (by omega)⟩
        case measure => simp [intOf]; omega
    · obtain rfl : i = N := by omega
      have p0 := hp.cell0
      have p1 := hp.cell1
      have p2 := hp.cell2
      have q0 := hr.cell0
      have q1 := hr.cell1
      have q2 := hr.cell2
      have f0 := hr.frozen 0
      have f1 := hr.frozen 1
      have f2 := hr.frozen 2
      go_wp2_with fail
      refine bodyPost_ret (v := .agg #[.bool s', .slice A' n' c', .slice B' m' d']) (by simp [results, Tryz.results13, go_sem, (hr.set0 (.bool s')).cell0, ((hr.set0 (.bool s')).set1 (.slice A' n' c')).cell1, (((hr.set0 (.bool s')).set1 (.slice A' n' c')).set2 (.slice B' m' d')).cell2]) rfl (gq_end hF (Nat.le_refl _) hr hq)
end Go.Proofs.YtjpchbcenbjibaaGreatDoor
