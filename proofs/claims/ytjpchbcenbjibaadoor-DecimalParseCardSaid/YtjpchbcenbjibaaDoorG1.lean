/-
  The walks of DecimalText and DecimalParse.
-/
import Derived.Test.YtjpchbcenbjibaaDoorL5
namespace Go.Proofs.YtjpchbcenbjibaaDoor
open Go.RowKit
set_option linter.unusedVariables false
set_option linter.unusedSimpArgs false

theorem cq_ext {w w' : World} {s : Bool} {A B : Option Addr} {n c m d : Nat} {xs ys : List Nat} (hx : Rd w A n c xs) (hy : Rd w B m d ys) (hx' : Rd w' A n c xs) (hy' : Rd w' B m d ys) (h : Cq w' s A n c B m d (rv s xs ys)) (hb : xs = dg (rv s xs ys).num.natAbs) (hc : ys = qd (rv s xs ys)) : Cq w s A n c B m d (rv s xs ys) := by
  refine ⟨?_, ?_, h.2.2⟩
  · rw [← hb]; exact hx
  · rw [← hc]; exact hy
/-- A value is canonical: a fact of its sign and its limbs alone. -/
def isC (s : Bool) (xs ys : List Nat) : Bool := (s == decide ((rv s xs ys).num < 0)) && decide (xs = dg (rv s xs ys).num.natAbs) && decide (ys = qd (rv s xs ys))
theorem cq_of {w : World} {s : Bool} {A B : Option Addr} {n c m d : Nat} {xs ys : List Nat} (hx : Rd w A n c xs) (hy : Rd w B m d ys) (h : isC s xs ys = true) : Cq w s A n c B m d (rv s xs ys) := by
  simp only [isC, Bool.and_eq_true, beq_iff_eq, decide_eq_true_eq] at h
  exact ⟨h.1.2 ▸ hx, h.2 ▸ hy, h.1.1⟩
theorem fair_not (s : Bool) (A : Option Addr) (n c : Nat) (B : Option Addr) (m d : Nat) (xs ys : List Nat) (w : World) (hx : Rd w A n c xs) (hy : Rd w B m d ys) (h : ¬ (n ≤ 8 ∧ m ≤ 8 ∧ isC s xs ys = true)) : Calls Tryd.prog 8 #[.agg #[.bool s, .slice A n c, .slice B m d]] w (Asks w (.bool false)) := by
  by_cases hn : n ≤ 8
  · have d1 : decide ((n : Int) ≤ 8) = true := by simp; omega
    by_cases hm : m ≤ 8
    · have d2 : decide ((m : Int) ≤ 8) = true := by simp; omega
      obtain ⟨q, hq⟩ : ∃ q, rv s xs ys = q := ⟨_, rfl⟩
      have hI : Iq w s A n c B m d q := ⟨xs, ys, hx, hy, hq⟩
      have hs := hI.size hn hm (by omega)
      have HV := hide (show ((s == decide (q.num < 0)) && decide (xs = dg q.num.natAbs) && decide (ys = qd q)) = false by
        rw [← hq]
        rcases Bool.eq_false_or_eq_true (isC s xs ys) with e | e
        · exact absurd ⟨hn, hm, e⟩ h
        · exact e)
      have HQ := hide hq
      have n1 : n ≤ 16384 := by omega
      have n2 : m ≤ 16384 := by omega
      have k1 : 8 ≤ 16384 := by omega
      have s1 : q.num.natAbs < pw 8 := hs.1
      have s2 : q.den < pw 8 := hs.2
      clear hq h hs hI
      have hx_1 := hx.alloc (EQ s A n c B m d)
      have hy_1 := hy.alloc (EQ s A n c B m d)
      have bx_1 : Sq ((w).alloc (EQ s A n c B m d)) (w.heap.size) (.bool s) (.slice A n c) (.slice B m d) := by have h_ := Sq.new (w) (.bool s) (.slice A n c) (.slice B m d); exact h_
      have F1 := (Below.refl w.heap.size w).alloc (Nat.le_refl _) (EQ s A n c B m d)
      go_enter Tryd.func8, Tryd.ntmps8
      go_wp2_with fail
      refine (rvalid_q _ _ _ _ _ _ _ _ _ q false _ HV.out HQ.out hx_1 hy_1 n1 n2 8 k1 s1 s2).mono ?_
      rintro e w2 ⟨rfl, b2⟩
      have hx_2 := hx_1.below b2
      have hy_2 := hy_1.below b2
      have bx_2 := bx_1.below b2 bx_1.lt
      have F2 := below_then F1 (Nat.le_refl _) b2
      have bx_u2 := bx_2.cell0
      have bx_v2 := bx_2.cell1
      have bx_w2 := bx_2.cell2
      go_wp2
      go_ret
      exact ⟨rfl, F2⟩
    · have d2 : decide ((m : Int) ≤ 8) = false := by simp; omega
      clear h
      have bx_1 : Sq ((w).alloc (EQ s A n c B m d)) (w.heap.size) (.bool s) (.slice A n c) (.slice B m d) := by have h_ := Sq.new (w) (.bool s) (.slice A n c) (.slice B m d); exact h_
      have F1 := (Below.refl w.heap.size w).alloc (Nat.le_refl _) (EQ s A n c B m d)
      go_enter Tryd.func8, Tryd.ntmps8
      go_wp2
      go_ret
      exact ⟨rfl, F1⟩
  · have d1 : decide ((n : Int) ≤ 8) = false := by simp; omega
    clear h
    have bx_1 : Sq ((w).alloc (EQ s A n c B m d)) (w.heap.size) (.bool s) (.slice A n c) (.slice B m d) := by have h_ := Sq.new (w) (.bool s) (.slice A n c) (.slice B m d); exact h_
    have F1 := (Below.refl w.heap.size w).alloc (Nat.le_refl _) (EQ s A n c B m d)
    go_enter Tryd.func8, Tryd.ntmps8
    go_wp2
    go_ret
    exact ⟨rfl, F1⟩
theorem lt_no (s : Bool) (A : Option Addr) (n c : Nat) (B : Option Addr) (m d : Nat) (xs ys : List Nat) (w : World) (hx : Rd w A n c xs) (hy : Rd w B m d ys) (h : ¬ (n ≤ 8 ∧ m ≤ 8 ∧ isC s xs ys = true)) : Calls Tryd.prog 3 #[.agg #[.bool s, .slice A n c, .slice B m d]] w (fun e w' => e = .returned (.bool true) ∧ Below w.heap.size w w') := by
  have HN := hide h
  clear h
  have hx_1 := hx.alloc (EQ s A n c B m d)
  have hy_1 := hy.alloc (EQ s A n c B m d)
  have bx_1 : Sq ((w).alloc (EQ s A n c B m d)) (w.heap.size) (.bool s) (.slice A n c) (.slice B m d) := by have h_ := Sq.new (w) (.bool s) (.slice A n c) (.slice B m d); exact h_
  have F1 := (Below.refl w.heap.size w).alloc (Nat.le_refl _) (EQ s A n c B m d)
  go_enter Tryd.func3, Tryd.ntmps3
  go_wp2_with fail
  refine (awake4 _).mono ?_
  rintro e w2 ⟨rfl, b2⟩
  have hx_2 := hx_1.below b2
  have hy_2 := hy_1.below b2
  have bx_2 := bx_1.below b2 bx_1.lt
  have F2 := below_then F1 (Nat.le_refl _) b2
  have bx_u2 := bx_2.cell0
  have bx_v2 := bx_2.cell1
  have bx_w2 := bx_2.cell2
  go_wp2_with fail
  refine (fair_not _ _ _ _ _ _ _ xs ys _ hx_2 hy_2 HN.out).mono ?_
  rintro e w3 ⟨rfl, b3⟩
  have hx_3 := hx_2.below b3
  have hy_3 := hy_2.below b3
  have bx_3 := bx_2.below b3 bx_2.lt
  have F3 := below_then F2 (Nat.le_refl _) b3
  have bx_u3 := bx_3.cell0
  have bx_v3 := bx_3.cell1
  have bx_w3 := bx_3.cell2
  go_wp2_with fail
  refine (awake4 _).mono ?_
  rintro e w4 ⟨rfl, b4⟩
  have hx_4 := hx_3.below b4
  have hy_4 := hy_3.below b4
  have bx_4 := bx_3.below b4 bx_3.lt
  have F4 := below_then F3 (Nat.le_refl _) b4
  have bx_u4 := bx_4.cell0
  have bx_v4 := bx_4.cell1
  have bx_w4 := bx_4.cell2
  go_wp2
  go_ret
  exact ⟨rfl, F4⟩
theorem rtext_at (s : Bool) (A : Option Addr) (n c : Nat) (B : Option Addr) (m d : Nat) (q : Rat) (K : Nat) (L : List UInt8) (w : World) (hL : txt q = L) (h : Cq w s A n c B m d q) (hs : Qs K q) (hK : K ≤ 16384) (hK1 : 1 ≤ K) :
    Calls Tryd.prog 10 #[.agg #[.bool s, .slice A n c, .slice B m d]] w (Asks w (.string (bs L))) := by
  subst hL
  exact rtext_q s A n c B m d q K w h hs hK hK1
theorem lt_yes (s : Bool) (A : Option Addr) (n c : Nat) (B : Option Addr) (m d : Nat) (q : Rat) (w : World) (h : Cq w s A n c B m d q) (hn : n ≤ 8) (hm : m ≤ 8) : Calls Tryd.prog 3 #[.agg #[.bool s, .slice A n c, .slice B m d]] w (fun e w' => e = .returned (.bool true) ∧ Below w.heap.size w w') := by
  have hs : Qs 8 q := h.iq.size hn hm (by omega)
  have k1 : 8 ≤ 1000 := by omega
  have k2 : 1 ≤ 8 := by omega
  have k3 : 8 ≤ 16384 := by omega
  obtain ⟨L, hL⟩ : ∃ L, txt q = L := ⟨_, rfl⟩
  have HL := hide hL
  have he : ((bs L).toList == (bs L).toList) = true := by simp
  clear hL
  have h_1 := h.alloc (EQ s A n c B m d)
  have bx_1 : Sq ((w).alloc (EQ s A n c B m d)) (w.heap.size) (.bool s) (.slice A n c) (.slice B m d) := by have h_ := Sq.new (w) (.bool s) (.slice A n c) (.slice B m d); exact h_
  have F1 := (Below.refl w.heap.size w).alloc (Nat.le_refl _) (EQ s A n c B m d)
  go_enter Tryd.func3, Tryd.ntmps3
  go_wp2_with fail
  refine (awake4 _).mono ?_
  rintro e w2 ⟨rfl, b2⟩
  have h_2 := h_1.below b2
  have bx_2 := bx_1.below b2 bx_1.lt
  have F2 := below_then F1 (Nat.le_refl _) b2
  have bx_u2 := bx_2.cell0
  have bx_v2 := bx_2.cell1
  have bx_w2 := bx_2.cell2
  go_wp2_with fail
  refine (fair_yes _ _ _ _ _ _ _ q _ h_2 hn hm).mono ?_
  rintro e w3 ⟨rfl, b3⟩
  have h_3 := h_2.below b3
  have bx_3 := bx_2.below b3 bx_2.lt
  have F3 := below_then F2 (Nat.le_refl _) b3
  have bx_u3 := bx_3.cell0
  have bx_v3 := bx_3.cell1
  have bx_w3 := bx_3.cell2
  go_wp2_with fail
  have h_4 := h_3.drew
  have bx_4 := bx_3.drew
  have F4 := F3.drew
  go_region_held3 (fun w' => w'.cell? ⟨w.heap.size, 0, none⟩ = some (.bool s) ∧ w'.cell? ⟨w.heap.size, 1, none⟩ = some (.slice A n c) ∧ w'.cell? ⟨w.heap.size, 2, none⟩ = some (.slice B m d))
    (first
      | with_reducible exact ⟨bx_6.cell0, bx_6.cell1, bx_6.cell2⟩
      | with_reducible exact ⟨bx_5.cell0, bx_5.cell1, bx_5.cell2⟩
      | with_reducible exact ⟨bx_4.cell0, bx_4.cell1, bx_4.cell2⟩
      | fail)
    (first
      | (go_at_call 9; (with_reducible refine (text_at _ _ _ _ _ _ _ q 8 L _ HL.out h_4 hs k1 k2).mono ?_); rintro e w5 ⟨rfl, b5⟩; have h_5 := h_4.below b5; have bx_5 := bx_4.below b5 bx_4.lt; have F5 := below_then F4 (Nat.le_refl _) b5)
      | (go_at_call 10; (with_reducible refine (rtext_at _ _ _ _ _ _ _ q 8 L _ HL.out h_5 hs k3 k2).mono ?_); rintro e w6 ⟨rfl, b6⟩; have h_6 := h_5.below b6; have bx_6 := bx_5.below b6 bx_5.lt; have F6 := below_then F5 (Nat.le_refl _) b6)
      | fail)
  have bx_u6 := bx_6.cell0
  have bx_v6 := bx_6.cell1
  have bx_w6 := bx_6.cell2
  go_wp2
  go_ret
  exact ⟨rfl, F6⟩
theorem lp_no (l : List UInt8) (w : World) (hl : ¬ l.length ≤ 300) : Calls Tryd.prog 4 #[.string (bs l)] w (fun e w' => e = .returned (.bool true) ∧ Below w.heap.size w w') := by
  have hs := bs_size l
  have d1 : decide (300 < (l.length : Int)) = true := by simp; omega
  go_enter Tryd.func4, Tryd.ntmps4
  go_wp2_with fail
  refine (awake4 _).mono ?_
  rintro e w1 ⟨rfl, b1⟩
  have F1 := b1
  go_wp2_with fail
  refine (awake4 _).mono ?_
  rintro e w2 ⟨rfl, b2⟩
  have F2 := below_then F1 (Nat.le_refl _) b2
  go_wp2
  go_ret
  exact ⟨rfl, F2⟩
theorem parse_qs (l : List UInt8) (K : Nat) (hl : l.length + 1 ≤ K) : Qs K (pparse l).1 := by
  have h := pparse_size l
  have h1 := ten_lt_pw l.length
  have h2 := pw_mono hl
  exact ⟨by omega, by omega⟩
theorem lp_yes (l : List UInt8) (w : World) (hl : l.length ≤ 300) : Calls Tryd.prog 4 #[.string (bs l)] w (fun e w' => e = .returned (.bool true) ∧ Below w.heap.size w w') := by
  have hs := bs_size l
  have d1 : decide (300 < (l.length : Int)) = false := by simp; omega
  have hq := parse_qs l 16384 (by omega)
  have h1 : l.length ≤ 100000 := by omega
  obtain ⟨r, hr⟩ : ∃ r, pparse l = r := ⟨_, rfl⟩
  obtain ⟨q, i, k⟩ := r
  rw [hr] at hq
  have hq1 : q.num.natAbs < pw 16384 := hq.1
  have hq2 : q.den < pw 16384 := hq.2
  obtain ⟨I, hI⟩ : ∃ I : Int, (i : Int) = I := ⟨_, rfl⟩
  obtain ⟨E, hE⟩ : ∃ I : Int, (k : Int) = I := ⟨_, rfl⟩
  have HR := hide hr
  have HI := hide hI
  have HE := hide hE
  have x1 : (I == I) = true := by simp
  have x2 : (E == E) = true := by simp
  clear hr hI hE hq
  go_enter Tryd.func4, Tryd.ntmps4
  go_wp2_with fail
  refine (awake4 _).mono ?_
  rintro e w1 ⟨rfl, b1⟩
  have F1 := b1
  go_wp2_with fail
  refine (parse_at l q i k I E _ h1 HR.out HI.out HE.out).mono ?_
  rintro e w2 ⟨s2, A2, n2, c2, B2, m2, d2, rfl, x, b2⟩
  have F2 := below_then F1 (Nat.le_refl _) b2
  have x_3 := x.alloc (EQ s2 A2 n2 c2 B2 m2 d2)
  have b1_3 : Sq ((w2).alloc (EQ s2 A2 n2 c2 B2 m2 d2)) (w2.heap.size) (.bool s2) (.slice A2 n2 c2) (.slice B2 m2 d2) := by have h_ := Sq.new (w2) (.bool s2) (.slice A2 n2 c2) (.slice B2 m2 d2); exact h_
  have F3 := F2.alloc F2.size (EQ s2 A2 n2 c2 B2 m2 d2)
  have b1_u3 := b1_3.cell0
  have b1_v3 := b1_3.cell1
  have b1_w3 := b1_3.cell2
  go_wp2_with fail
  refine (rparse_at l q i k I E _ h1 HR.out HI.out HE.out).mono ?_
  rintro e w4 ⟨s4, A4, n4, c4, B4, m4, d4, rfl, y, b4⟩
  have x_4 := x_3.below b4
  have b1_4 := b1_3.below b4 b1_3.lt
  have F4 := below_then F3 (Nat.le_refl _) b4
  have b1_u4 := b1_4.cell0
  have b1_v4 := b1_4.cell1
  have b1_w4 := b1_4.cell2
  have lt_b2_b1 := b1_4.lt
  have x_5 := x_4.alloc (EQ s4 A4 n4 c4 B4 m4 d4)
  have y_5 := y.alloc (EQ s4 A4 n4 c4 B4 m4 d4)
  have b1_5 := b1_4.alloc (EQ s4 A4 n4 c4 B4 m4 d4)
  have b2_5 : Sq ((w4).alloc (EQ s4 A4 n4 c4 B4 m4 d4)) (w4.heap.size) (.bool s4) (.slice A4 n4 c4) (.slice B4 m4 d4) := by have h_ := Sq.new (w4) (.bool s4) (.slice A4 n4 c4) (.slice B4 m4 d4); exact h_
  have F5 := F4.alloc F4.size (EQ s4 A4 n4 c4 B4 m4 d4)
  have b1_u5 := b1_5.cell0
  have b1_v5 := b1_5.cell1
  have b1_w5 := b1_5.cell2
  have b2_u5 := b2_5.cell0
  have b2_v5 := b2_5.cell1
  have b2_w5 := b2_5.cell2
  go_wp2_with fail
  refine (same_q _ _ _ _ _ _ _ _ _ _ _ _ _ _ q _ x_5 y_5 (x_5.ln hq1) (x_5.ld hq2)).mono ?_
  rintro e w6 ⟨rfl, b6⟩
  have x_6 := x_5.below b6
  have y_6 := y_5.below b6
  have b1_6 := b1_5.below b6 b1_5.lt
  have b2_6 := b2_5.below b6 b2_5.lt
  have F6 := below_then F5 (Nat.le_refl _) b6
  have b1_u6 := b1_6.cell0
  have b1_v6 := b1_6.cell1
  have b1_w6 := b1_6.cell2
  have b2_u6 := b2_6.cell0
  have b2_v6 := b2_6.cell1
  have b2_w6 := b2_6.cell2
  go_wp2
  go_ret
  exact ⟨rfl, F6⟩
end Go.Proofs.YtjpchbcenbjibaaDoor
