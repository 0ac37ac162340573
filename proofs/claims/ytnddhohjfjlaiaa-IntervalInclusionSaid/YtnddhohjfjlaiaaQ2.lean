/-
  The program's Canon, Valid, Sign, Neg, Num, Den, Of.
-/
import Derived.Test.YtnddhohjfjlaiaaQ1
namespace Go.Proofs.Ytnddhohjfjlaiaa
open Go.RowKit
set_option linter.unusedVariables false
set_option linter.unusedSimpArgs false

theorem iv_dg (s : Bool) (xs : List Nat) : iv s (dg (val xs)) = iv s xs := by unfold iv; rw [val_dg]
set_option maxHeartbeats 1000000 in
theorem canon_q (s : Bool) (A : Option Addr) (n c : Nat) (B : Option Addr) (m d : Nat) (q : Rat) (w : World) (h : Iq w s A n c B m d q) (hn : n ≤ 16384) (hm : m ≤ 16384) :
    Calls Try.prog 43 #[.agg #[.bool s, .slice A n c, .slice B m d]] w (GQ w q) := by
  obtain ⟨xs, ys, hx0, hy, hq⟩ := h
  have hx := hx0.nz hn
  obtain ⟨D, hD⟩ : ∃ D, rden ys = D := ⟨_, rfl⟩
  have HD := hide hD
  have HQ := hide (show mkRat (iv s (dg (val xs))) D = q by rw [iv_dg, ← hD]; exact hq)
  have H0 : D ≠ 0 := by rw [← hD]; exact rden_pos ys
  have hK : 16384 ≤ 1048576 := by omega
  have h1 : 1 ≤ 16384 := by omega
  have hk : 16384 ≤ 65536 := by omega
  clear hD hq hx0
  have hx_1 := hx.alloc (EQ s A n c B m d)
  have hy_1 := hy.alloc (EQ s A n c B m d)
  have bx_1 : Sq ((w).alloc (EQ s A n c B m d)) (w.heap.size) (.bool s) (.slice A n c) (.slice B m d) := by have h_ := Sq.new (w) (.bool s) (.slice A n c) (.slice B m d); exact h_
  have F1 := (Below.refl w.heap.size w).alloc (Nat.le_refl _) (EQ s A n c B m d)
  have hx_2 := hx_1.alloc EQ0
  have hy_2 := hy_1.alloc EQ0
  have bx_2 := bx_1.alloc EQ0
  have br_2 : Sq (((w).alloc (EQ s A n c B m d)).alloc EQ0) (w.heap.size + 1) (.bool false) (.slice none 0 0) (.slice none 0 0) := by have h_ := Sq.new ((w).alloc (EQ s A n c B m d)) (.bool false) (.slice none 0 0) (.slice none 0 0); simp only [World.size_alloc] at h_; exact h_
  have F2 := F1.alloc F1.size EQ0
  go_enter Try.func43, Try.ntmps43
  go_wp2_with fail
  have hx_3 := hx_2.drew
  have hy_3 := hy_2.drew
  have bx_3 := bx_2.drew
  have br_3 := br_2.drew
  have F3 := F2.drew
  go_region_held3 (fun w' => w'.cell? ⟨w.heap.size, 0, none⟩ = some (.bool s) ∧ w'.cell? ⟨w.heap.size, 1, none⟩ = some (.slice A n c) ∧ w'.cell? ⟨w.heap.size, 2, none⟩ = some (.slice B m d))
    (first
      | with_reducible exact ⟨bx_p.cell0, bx_p.cell1, bx_p.cell2⟩
      | with_reducible exact ⟨bx_7.cell0, bx_7.cell1, bx_7.cell2⟩
      | with_reducible exact ⟨bx_6.cell0, bx_6.cell1, bx_6.cell2⟩
      | with_reducible exact ⟨bx_5.cell0, bx_5.cell1, bx_5.cell2⟩
      | with_reducible exact ⟨bx_4.cell0, bx_4.cell1, bx_4.cell2⟩
      | with_reducible exact ⟨bx_3.cell0, bx_3.cell1, bx_3.cell2⟩
      | fail)
    (first
      | (go_at_call 67; (with_reducible refine (make_n _ _ _ 16384 _ _ hx_3 hK).mono ?_); rintro e w4 ⟨A4, n4, c4, rfl, a, b4⟩; have hx_4 := hx_3.below b4; have hy_4 := hy_3.below b4; have bx_4 := bx_3.below b4 bx_3.lt; have br_4 := br_3.below b4 br_3.lt; have F4 := below_then F3 (Nat.le_refl _) b4)
      | (go_at_call 65; (with_reducible refine (divisor_n _ _ _ _ _ _ _ ys 16384 D _ HD.out hy_4 hm h1 hK).mono ?_); rintro e w5 ⟨A5, n5, c5, rfl, o, b5⟩; have hx_5 := hx_4.below b5; have hy_5 := hy_4.below b5; have a_5 := a.below b5; have bx_5 := bx_4.below b5 bx_4.lt; have br_5 := br_4.below b5 br_4.lt; have F5 := below_then F4 (Nat.le_refl _) b5)
      | (go_at_call 67; (with_reducible refine (make_n _ _ _ 16384 D _ o hK).mono ?_); rintro e w6 ⟨A6, n6, c6, rfl, b, b6⟩; have hx_6 := hx_5.below b6; have hy_6 := hy_5.below b6; have a_6 := a_5.below b6; have o_6 := o.below b6; have bx_6 := bx_5.below b6 bx_5.lt; have br_6 := br_5.below b6 br_5.lt; have F6 := below_then F5 (Nat.le_refl _) b6)
      | (go_at_call 66; (with_reducible refine (quo_n _ _ _ _ _ _ _ _ _ _ _ q _ HQ.out H0 a_6 b hk hk).mono ?_); rintro e w7 ⟨s7, A7, n7, c7, B7, m7, d7, rfl, k, b7⟩; have hx_7 := hx_6.below b7; have hy_7 := hy_6.below b7; have a_7 := a_6.below b7; have o_7 := o_6.below b7; have b_7 := b.below b7; have bx_7 := bx_6.below b7 bx_6.lt; have br_7 := br_6.below b7 br_6.lt; have F7 := below_then F6 (Nat.le_refl _) b7; have br_g0 := br_7.cell0; have br_h0 := br_7.frozen 0; have br_g1 := br_7.cell1; have br_h1 := br_7.frozen 1; have br_g2 := br_7.cell2; have br_h2 := br_7.frozen 2; have bx_p := bx_7.past (g' := w.heap.size + 1) (u0 := .bool s7) (u1 := .slice A7 n7 c7) (u2 := .slice B7 m7 d7) (by omega))
      | fail)
  go_wp2_with fail
  refine bodyPost_ret (v := .agg #[.bool s7, .slice A7 n7 c7, .slice B7 m7 d7]) (by simp [results, Try.results43, go_sem, (br_7.set0 (.bool s7)).cell0, ((br_7.set0 (.bool s7)).set1 (.slice A7 n7 c7)).cell1, (((br_7.set0 (.bool s7)).set1 (.slice A7 n7 c7)).set2 (.slice B7 m7 d7)).cell2]) rfl (gq_end F7 (by omega) br_7 k)
theorem eq_calls (A B : Option Addr) (n m c d : Nat) (xs ys : List Nat) (w : World) (b : Bool) (hb : decide (xs = ys) = b) (h : Rd w A n c xs) (h2 : Rd w B m d ys) (hn : n ≤ 1048576) (hm : m ≤ 1048576) :
    Calls Try.prog 69 #[.slice A n c, .slice B m d] w fun e w' => e = .returned (.bool b) ∧ ∃ q, w' = w.drewN q := by
  by_cases hnm : n = m
  · subst hnm
    have hnn : ((n : Int) != (n : Int)) = false := by simp
    have HB := hide hb
    have HL := hide (And.intro h.len h2.len)
    clear hb
    go_enter Try.func69, Try.ntmps69
    go_wp2
    go_loopw [13] (fun i wr => ∃ k q : Nat, k ≤ n ∧ i = .int .i64 k ∧ wr = w.drewN q ∧ Hid (∀ j, j < k → lim xs j = lim ys j)) (fun i _ => n - (intOf i).toNat)
    case atStart => exact ⟨0, 0, by omega, rfl, rfl, fun j hj => absurd hj (by omega)⟩
    case round =>
      obtain ⟨k, q, hk, rfl, rfl, HI⟩ := hrel
      by_cases hkn : k < n
      · obtain ⟨bb, off, rfl, _, hc⟩ := h.get hkn
        obtain ⟨bb2, off2, rfl, _, hc2⟩ := h2.get hkn
        obtain ⟨x, hx⟩ : ∃ x, lim xs k = x := ⟨_, rfl⟩
        obtain ⟨y, hy⟩ : ∃ y, lim ys k = y := ⟨_, rfl⟩
        rw [hx] at hc
        rw [hy] at hc2
        have HX := hide hx
        have HY := hide hy
        clear h h2 hx hy
        by_cases hxy : x = y
        · have hne : (((x : Nat) : Int) != ((y : Nat) : Int)) = false := by simp [hxy]
          have HE := hide hxy
          clear hxy
          go_wp2
          go_quiet (fail)
          go_wp2
          go_roundw
          case rel => exact ⟨k + 1, _, by omega, by go_num, rfl, fun j hj => by
            rcases Nat.lt_or_ge j k with h1 | h1
            · exact HI.out j h1
            · obtain rfl : j = k := by omega
              rw [HX.out, HY.out, HE.out]⟩
          case measure => simp [intOf]; omega
        · have hne : (((x : Nat) : Int) != ((y : Nat) : Int)) = true := by simp; omega
          have hb2 : b = false := by
            rw [← HB.out]
            simp only [decide_eq_false_iff_not]
            intro e
            exact hxy (by rw [← HX.out, ← HY.out, e])
          subst hb2
          clear hxy
          go_wp2
          go_quiet (fail)
          go_wp2
          go_ret
          exact ⟨rfl, drewN2 _ _ _⟩
      · obtain rfl : k = n := by omega
        have hb2 : b = true := by
          rw [← HB.out]
          simp only [decide_eq_true_eq]
          have h1 := HL.out.1
          have h2' := HL.out.2
          exact List.ext_getElem (by omega) fun i hi hi2 => by
            have := HI.out i (by omega)
            rwa [lim_get hi, lim_get hi2] at this
        subst hb2
        go_wp2
        go_ret
        exact ⟨rfl, _, rfl⟩
  · have hne : ((n : Int) != (m : Int)) = true := by simp; omega
    have hb2 : b = false := by
      rw [← hb]
      simp only [decide_eq_false_iff_not]
      intro e
      exact hnm (by rw [← h.len, ← h2.len, e])
    subst hb2
    clear hnm hb
    go_enter Try.func69, Try.ntmps69
    go_wp2
    go_ret
    exact ⟨rfl, 0, rfl⟩
theorem eq_ask (A B : Option Addr) (n m c d : Nat) (xs ys : List Nat) (w : World) (b : Bool) (hb : decide (xs = ys) = b) (h : Rd w A n c xs) (h2 : Rd w B m d ys) (hn : n ≤ 1048576) (hm : m ≤ 1048576) :
    Calls Try.prog 69 #[.slice A n c, .slice B m d] w (Asks w (.bool b)) :=
  (eq_calls A B n m c d xs ys w b hb h h2 hn hm).mono fun _ _ ⟨he, q, hw⟩ => ⟨he, by rw [hw]; exact below_drewN (Below.refl _ _) q⟩
theorem valid_q (s : Bool) (A : Option Addr) (n c : Nat) (B : Option Addr) (m d : Nat) (xs ys : List Nat) (q : Rat) (b : Bool) (w : World) (hb : ((s == decide (q.num < 0)) && decide (xs = dg q.num.natAbs) && decide (ys = qd q)) = b) (hq : rv s xs ys = q) (hx : Rd w A n c xs) (hy : Rd w B m d ys) (hn : n ≤ 16384) (hm : m ≤ 16384)
    (K : Nat) (hK : K ≤ 16384) (l1 : q.num.natAbs < pw K) (l2 : q.den < pw K) :
    Calls Try.prog 46 #[.agg #[.bool s, .slice A n c, .slice B m d]] w (Asks w (.bool b)) := by
  have h : Iq w s A n c B m d q := ⟨xs, ys, hx, hy, hq⟩
  obtain ⟨bo0, hb0⟩ : ∃ b, (s == decide (q.num < 0)) = b := ⟨_, rfl⟩
  obtain ⟨bo1, hb1⟩ : ∃ b, decide (xs = dg q.num.natAbs) = b := ⟨_, rfl⟩
  obtain ⟨bo2, hb2⟩ : ∃ b, decide (ys = qd q) = b := ⟨_, rfl⟩
  rw [hb0, hb1, hb2] at hb
  subst hb
  have H0 := hide hb0
  have H1 := hide hb1
  have H2 := hide hb2
  have ln1 : n ≤ 1048576 := by omega
  have ln2 : m ≤ 1048576 := by omega
  have K2 : K ≤ 1048576 := by omega
  clear hb0 hb1 hb2 hq
  cases bo0
  · have h_1 := h.alloc (EQ s A n c B m d)
    have hx_1 := hx.alloc (EQ s A n c B m d)
    have hy_1 := hy.alloc (EQ s A n c B m d)
    have bx_1 : Sq ((w).alloc (EQ s A n c B m d)) (w.heap.size) (.bool s) (.slice A n c) (.slice B m d) := by have h_ := Sq.new (w) (.bool s) (.slice A n c) (.slice B m d); exact h_
    have F1 := (Below.refl w.heap.size w).alloc (Nat.le_refl _) (EQ s A n c B m d)
    go_enter Try.func46, Try.ntmps46
    go_wp2_with fail
    refine (canon_q _ _ _ _ _ _ _ q _ h_1 hn hm).mono ?_
    rintro e w2 ⟨s2, A2, n2, c2, B2, m2, d2, rfl, k, b2⟩
    have h_2 := h_1.below b2
    have hx_2 := hx_1.below b2
    have hy_2 := hy_1.below b2
    have bx_2 := bx_1.below b2 bx_1.lt
    have F2 := below_then F1 (Nat.le_refl _) b2
    have bx_u2 := bx_2.cell0
    have bx_v2 := bx_2.cell1
    have bx_w2 := bx_2.cell2
    have est : (s == s2) = false := by rw [k.2.2]; exact H0.out
    have e1 := Nat.le_trans (k.ln l1) K2
    have e2 := Nat.le_trans (k.ld l2) K2
    have lt_bc_bx := bx_2.lt
    have h_3 := h_2.alloc (EQ s2 A2 n2 c2 B2 m2 d2)
    have hx_3 := hx_2.alloc (EQ s2 A2 n2 c2 B2 m2 d2)
    have hy_3 := hy_2.alloc (EQ s2 A2 n2 c2 B2 m2 d2)
    have k_3 := k.alloc (EQ s2 A2 n2 c2 B2 m2 d2)
    have bx_3 := bx_2.alloc (EQ s2 A2 n2 c2 B2 m2 d2)
    have bc_3 : Sq ((w2).alloc (EQ s2 A2 n2 c2 B2 m2 d2)) (w2.heap.size) (.bool s2) (.slice A2 n2 c2) (.slice B2 m2 d2) := by have h_ := Sq.new (w2) (.bool s2) (.slice A2 n2 c2) (.slice B2 m2 d2); exact h_
    have F3 := F2.alloc F2.size (EQ s2 A2 n2 c2 B2 m2 d2)
    have bx_u3 := bx_3.cell0
    have bx_v3 := bx_3.cell1
    have bx_w3 := bx_3.cell2
    have bc_u3 := bc_3.cell0
    have bc_v3 := bc_3.cell1
    have bc_w3 := bc_3.cell2
    go_wp2
    go_ret
    exact ⟨rfl, F3⟩
  · cases bo1
    · have h_1 := h.alloc (EQ s A n c B m d)
      have hx_1 := hx.alloc (EQ s A n c B m d)
      have hy_1 := hy.alloc (EQ s A n c B m d)
      have bx_1 : Sq ((w).alloc (EQ s A n c B m d)) (w.heap.size) (.bool s) (.slice A n c) (.slice B m d) := by have h_ := Sq.new (w) (.bool s) (.slice A n c) (.slice B m d); exact h_
      have F1 := (Below.refl w.heap.size w).alloc (Nat.le_refl _) (EQ s A n c B m d)
      go_enter Try.func46, Try.ntmps46
      go_wp2_with fail
      refine (canon_q _ _ _ _ _ _ _ q _ h_1 hn hm).mono ?_
      rintro e w2 ⟨s2, A2, n2, c2, B2, m2, d2, rfl, k, b2⟩
      have h_2 := h_1.below b2
      have hx_2 := hx_1.below b2
      have hy_2 := hy_1.below b2
      have bx_2 := bx_1.below b2 bx_1.lt
      have F2 := below_then F1 (Nat.le_refl _) b2
      have bx_u2 := bx_2.cell0
      have bx_v2 := bx_2.cell1
      have bx_w2 := bx_2.cell2
      have est : (s == s2) = true := by rw [k.2.2]; exact H0.out
      have e1 := Nat.le_trans (k.ln l1) K2
      have e2 := Nat.le_trans (k.ld l2) K2
      have lt_bc_bx := bx_2.lt
      have h_3 := h_2.alloc (EQ s2 A2 n2 c2 B2 m2 d2)
      have hx_3 := hx_2.alloc (EQ s2 A2 n2 c2 B2 m2 d2)
      have hy_3 := hy_2.alloc (EQ s2 A2 n2 c2 B2 m2 d2)
      have k_3 := k.alloc (EQ s2 A2 n2 c2 B2 m2 d2)
      have bx_3 := bx_2.alloc (EQ s2 A2 n2 c2 B2 m2 d2)
      have bc_3 : Sq ((w2).alloc (EQ s2 A2 n2 c2 B2 m2 d2)) (w2.heap.size) (.bool s2) (.slice A2 n2 c2) (.slice B2 m2 d2) := by have h_ := Sq.new (w2) (.bool s2) (.slice A2 n2 c2) (.slice B2 m2 d2); exact h_
      have F3 := F2.alloc F2.size (EQ s2 A2 n2 c2 B2 m2 d2)
      have bx_u3 := bx_3.cell0
      have bx_v3 := bx_3.cell1
      have bx_w3 := bx_3.cell2
      have bc_u3 := bc_3.cell0
      have bc_v3 := bc_3.cell1
      have bc_w3 := bc_3.cell2
      go_wp2_with fail
      refine (eq_ask _ _ _ _ _ _ _ _ _ false H1.out hx_3 k_3.rn ln1 e1).mono ?_
      rintro e w4 ⟨rfl, b4⟩
      have h_4 := h_3.below b4
      have hx_4 := hx_3.below b4
      have hy_4 := hy_3.below b4
      have k_4 := k_3.below b4
      have bx_4 := bx_3.below b4 bx_3.lt
      have bc_4 := bc_3.below b4 bc_3.lt
      have F4 := below_then F3 (Nat.le_refl _) b4
      have bx_u4 := bx_4.cell0
      have bx_v4 := bx_4.cell1
      have bx_w4 := bx_4.cell2
      have bc_u4 := bc_4.cell0
      have bc_v4 := bc_4.cell1
      have bc_w4 := bc_4.cell2
      go_wp2
      go_ret
      exact ⟨rfl, F4⟩
    · have h_1 := h.alloc (EQ s A n c B m d)
      have hx_1 := hx.alloc (EQ s A n c B m d)
      have hy_1 := hy.alloc (EQ s A n c B m d)
      have bx_1 : Sq ((w).alloc (EQ s A n c B m d)) (w.heap.size) (.bool s) (.slice A n c) (.slice B m d) := by have h_ := Sq.new (w) (.bool s) (.slice A n c) (.slice B m d); exact h_
      have F1 := (Below.refl w.heap.size w).alloc (Nat.le_refl _) (EQ s A n c B m d)
      go_enter Try.func46, Try.ntmps46
      go_wp2_with fail
      refine (canon_q _ _ _ _ _ _ _ q _ h_1 hn hm).mono ?_
      rintro e w2 ⟨s2, A2, n2, c2, B2, m2, d2, rfl, k, b2⟩
      have h_2 := h_1.below b2
      have hx_2 := hx_1.below b2
      have hy_2 := hy_1.below b2
      have bx_2 := bx_1.below b2 bx_1.lt
      have F2 := below_then F1 (Nat.le_refl _) b2
      have bx_u2 := bx_2.cell0
      have bx_v2 := bx_2.cell1
      have bx_w2 := bx_2.cell2
      have est : (s == s2) = true := by rw [k.2.2]; exact H0.out
      have e1 := Nat.le_trans (k.ln l1) K2
      have e2 := Nat.le_trans (k.ld l2) K2
      have lt_bc_bx := bx_2.lt
      have h_3 := h_2.alloc (EQ s2 A2 n2 c2 B2 m2 d2)
      have hx_3 := hx_2.alloc (EQ s2 A2 n2 c2 B2 m2 d2)
      have hy_3 := hy_2.alloc (EQ s2 A2 n2 c2 B2 m2 d2)
      have k_3 := k.alloc (EQ s2 A2 n2 c2 B2 m2 d2)
      have bx_3 := bx_2.alloc (EQ s2 A2 n2 c2 B2 m2 d2)
      have bc_3 : Sq ((w2).alloc (EQ s2 A2 n2 c2 B2 m2 d2)) (w2.heap.size) (.bool s2) (.slice A2 n2 c2) (.slice B2 m2 d2) := by have h_ := Sq.new (w2) (.bool s2) (.slice A2 n2 c2) (.slice B2 m2 d2); exact h_
      have F3 := F2.alloc F2.size (EQ s2 A2 n2 c2 B2 m2 d2)
      have bx_u3 := bx_3.cell0
      have bx_v3 := bx_3.cell1
      have bx_w3 := bx_3.cell2
      have bc_u3 := bc_3.cell0
      have bc_v3 := bc_3.cell1
      have bc_w3 := bc_3.cell2
      go_wp2_with fail
      refine (eq_ask _ _ _ _ _ _ _ _ _ true H1.out hx_3 k_3.rn ln1 e1).mono ?_
      rintro e w4 ⟨rfl, b4⟩
      have h_4 := h_3.below b4
      have hx_4 := hx_3.below b4
      have hy_4 := hy_3.below b4
      have k_4 := k_3.below b4
      have bx_4 := bx_3.below b4 bx_3.lt
      have bc_4 := bc_3.below b4 bc_3.lt
      have F4 := below_then F3 (Nat.le_refl _) b4
      have bx_u4 := bx_4.cell0
      have bx_v4 := bx_4.cell1
      have bx_w4 := bx_4.cell2
      have bc_u4 := bc_4.cell0
      have bc_v4 := bc_4.cell1
      have bc_w4 := bc_4.cell2
      go_wp2_with fail
      refine (eq_ask _ _ _ _ _ _ _ _ _ bo2 H2.out hy_4 k_4.rd ln2 e2).mono ?_
      rintro e w5 ⟨rfl, b5⟩
      have h_5 := h_4.below b5
      have hx_5 := hx_4.below b5
      have hy_5 := hy_4.below b5
      have k_5 := k_4.below b5
      have bx_5 := bx_4.below b5 bx_4.lt
      have bc_5 := bc_4.below b5 bc_4.lt
      have F5 := below_then F4 (Nat.le_refl _) b5
      have bx_u5 := bx_5.cell0
      have bx_v5 := bx_5.cell1
      have bx_w5 := bx_5.cell2
      have bc_u5 := bc_5.cell0
      have bc_v5 := bc_5.cell1
      have bc_w5 := bc_5.cell2
      go_wp2
      go_ret
      exact ⟨rfl, F5⟩
theorem sign_q (s : Bool) (A : Option Addr) (n c : Nat) (B : Option Addr) (m d : Nat) (q : Rat) (r : Int) (w : World) (hr : sz q.num = r) (h : Iq w s A n c B m d q) (hn : n ≤ 16384) :
    Calls Try.prog 50 #[.agg #[.bool s, .slice A n c, .slice B m d]] w (Asks w (.int .i64 r)) := by
  obtain ⟨xs, ys, hx, hy, hq⟩ := h
  have HR := hide (show sz (iv s xs) = r by rw [sz_sign s xs ys, hq, hr])
  have hz : Iz w s A n c (iv s xs) := ⟨xs, hx, rfl⟩
  have hn2 : n ≤ 1048576 := by omega
  clear hq hr
  have hz_1 := hz.alloc (EQ s A n c B m d)
  have bx_1 : Sq ((w).alloc (EQ s A n c B m d)) (w.heap.size) (.bool s) (.slice A n c) (.slice B m d) := by have h_ := Sq.new (w) (.bool s) (.slice A n c) (.slice B m d); exact h_
  have F1 := (Below.refl w.heap.size w).alloc (Nat.le_refl _) (EQ s A n c B m d)
  go_enter Try.func50, Try.ntmps50
  go_wp2_with fail
  refine (dividend_n _ _ _ _ _ _ _ _).mono ?_
  rintro e w2 ⟨rfl, b2⟩
  have hz_2 := hz_1.below b2
  have bx_2 := bx_1.below b2 bx_1.lt
  have F2 := below_then F1 (Nat.le_refl _) b2
  have bx_u2 := bx_2.cell0
  have bx_v2 := bx_2.cell1
  have bx_w2 := bx_2.cell2
  go_wp2_with fail
  refine (sign_int _ _ _ _ _ r _ HR.out hz_2 hn2).mono ?_
  rintro e w3 ⟨rfl, b3⟩
  have hz_3 := hz_2.below b3
  have bx_3 := bx_2.below b3 bx_2.lt
  have F3 := below_then F2 (Nat.le_refl _) b3
  have bx_u3 := bx_3.cell0
  have bx_v3 := bx_3.cell1
  have bx_w3 := bx_3.cell2
  go_wp2
  go_ret
  exact ⟨rfl, F3⟩
theorem neg_q (s : Bool) (A : Option Addr) (n c : Nat) (B : Option Addr) (m d : Nat) (q : Rat) (w : World) (h : Iq w s A n c B m d q) (hn : n ≤ 16384) (hm : m ≤ 16384) :
    Calls Try.prog 49 #[.agg #[.bool s, .slice A n c, .slice B m d]] w (GQ w (-q)) := by
  have h := h.neg
  have h_1 := h.alloc (EQ (!s) A n c B m d)
  have bx_1 : Sq ((w).alloc (EQ (!s) A n c B m d)) (w.heap.size) (.bool (!s)) (.slice A n c) (.slice B m d) := by have h_ := Sq.new (w) (.bool (!s)) (.slice A n c) (.slice B m d); exact h_
  have F1 := (Below.refl w.heap.size w).alloc (Nat.le_refl _) (EQ (!s) A n c B m d)
  have h_2 := h_1.alloc EQ0
  have bx_2 := bx_1.alloc EQ0
  have br_2 : Sq (((w).alloc (EQ (!s) A n c B m d)).alloc EQ0) (w.heap.size + 1) (.bool false) (.slice none 0 0) (.slice none 0 0) := by have h_ := Sq.new ((w).alloc (EQ (!s) A n c B m d)) (.bool false) (.slice none 0 0) (.slice none 0 0); simp only [World.size_alloc] at h_; exact h_
  have F2 := F1.alloc F1.size EQ0
  go_enter Try.func49, Try.ntmps49
  go_wp2_with fail
  refine (canon_q _ _ _ _ _ _ _ _ _ h_2 hn hm).mono ?_
  rintro e w3 ⟨s3, A3, n3, c3, B3, m3, d3, rfl, k, b3⟩
  have h_3 := h_2.below b3
  have bx_3 := bx_2.below b3 bx_2.lt
  have br_3 := br_2.below b3 br_2.lt
  have F3 := below_then F2 (Nat.le_refl _) b3
  have bx_u3 := bx_3.cell0
  have bx_v3 := bx_3.cell1
  have bx_w3 := bx_3.cell2
  have br_u3 := br_3.cell0
  have br_v3 := br_3.cell1
  have br_w3 := br_3.cell2
  have br_f03 := br_3.frozen 0
  have br_f13 := br_3.frozen 1
  have br_f23 := br_3.frozen 2
  go_wp2_with fail
  refine bodyPost_ret (v := .agg #[.bool s3, .slice A3 n3 c3, .slice B3 m3 d3]) (by simp [results, Try.results49, go_sem, (br_3.set0 (.bool s3)).cell0, ((br_3.set0 (.bool s3)).set1 (.slice A3 n3 c3)).cell1, (((br_3.set0 (.bool s3)).set1 (.slice A3 n3 c3)).set2 (.slice B3 m3 d3)).cell2]) rfl (gq_end F3 (by omega) br_3 k)
theorem divisor_c (s : Bool) (A : Option Addr) (n c : Nat) (B : Option Addr) (m d : Nat) (q : Rat) (k : Nat) (w : World) (h : Rd w B m d (qd q)) (hq : q.den < pw k) (hk : 1 ≤ k) (hK : k ≤ 1048576) :
    Calls Try.prog 65 #[.agg #[.bool s, .slice A n c, .slice B m d]] w (GY w k q.den) := by
  have hm := h.len
  by_cases h1 : q.den = 1
  · have e : val (qd q) = 0 := by rw [qd, if_pos h1]; rfl
    have e2 : (qd q).length = 0 := by rw [qd, if_pos h1]; rfl
    rw [h1]
    exact divisor_1 s A n c B m d (qd q) k w e h (by omega) hk
  · have e : qd q = dg q.den := by rw [qd, if_neg h1]
    have h0 : val (qd q) ≠ 0 := by rw [e, val_dg]; exact q.den_nz
    have hm2 : m ≤ k := by rw [e] at hm; have := dg_le hq; omega
    refine (divisor_g s A n c B m d (qd q) w h0 h (by omega)).mono ?_
    rintro e' w' ⟨rfl, hb⟩
    exact ⟨_, _, _, rfl, ⟨hm2, by rw [← e]; exact h.below hb⟩, hb⟩
theorem gq_alloc_ {w w' : World} {q : Rat} {e : Ending} (h : GQ w q e w') (o : Obj) : GQ w q e (w'.alloc o) := by
  obtain ⟨s, A, n, c, B, m, d, he, hc, hb⟩ := h
  exact ⟨s, A, n, c, B, m, d, he, hc.alloc o, hb.alloc hb.size o⟩
end Go.Proofs.Ytnddhohjfjlaiaa
