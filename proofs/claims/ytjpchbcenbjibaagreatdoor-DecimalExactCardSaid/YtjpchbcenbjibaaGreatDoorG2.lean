/-
  The walks of DecimalFixed and DecimalRoundTrip.
-/
import Derived.Test.YtjpchbcenbjibaaGreatDoorG1
namespace Go.Proofs.YtjpchbcenbjibaaGreatDoor
open Go.RowKit
set_option linter.unusedVariables false
set_option linter.unusedSimpArgs false

theorem lf_no (s : Bool) (A : Option Addr) (n c : Nat) (B : Option Addr) (m d : Nat) (P : Int) (xs ys : List Nat) (w : World) (hx : Rd w A n c xs) (hy : Rd w B m d ys) (h : ¬ (n ≤ 8 ∧ m ≤ 8 ∧ isC s xs ys = true)) : Calls Tryz.prog 3 #[.agg #[.bool s, .slice A n c, .slice B m d], .int .i64 P] w (fun e w' => e = .returned (.bool true) ∧ Below w.heap.size w w') := by
  have HN := hide h
  clear h
  have hx_1 := hx.alloc (EQ s A n c B m d)
  have hy_1 := hy.alloc (EQ s A n c B m d)
  have bx_1 : Sq ((w).alloc (EQ s A n c B m d)) (w.heap.size) (.bool s) (.slice A n c) (.slice B m d) := by have h_ := Sq.new (w) (.bool s) (.slice A n c) (.slice B m d); exact h_
  have F1 := (Below.refl w.heap.size w).alloc (Nat.le_refl _) (EQ s A n c B m d)
  go_enter Tryz.func3, Tryz.ntmps3
  go_wp2_with fail
  refine (awake4 _).mono ?_
  rintro e w2 ⟨rfl, b2⟩
  have hx_2 := hx_1.below b2
  have hy_2 := hy_1.below b2
  have bx_2 := bx_1.below b2 bx_1.lt
  have F2 := below_then F1 (Nat.le_refl _) b2
  have bx_u2 := bx_2.cell0
  have bx_v2 := bx_2.cell1
  have bx_w2 := bx_2.cell2
  go_wp2_with fail
  refine (fair_not _ _ _ _ _ _ _ xs ys _ hx_2 hy_2 HN.out).mono ?_
  rintro e w3 ⟨rfl, b3⟩
  have hx_3 := hx_2.below b3
  have hy_3 := hy_2.below b3
  have bx_3 := bx_2.below b3 bx_2.lt
  have F3 := below_then F2 (Nat.le_refl _) b3
  have bx_u3 := bx_3.cell0
  have bx_v3 := bx_3.cell1
  have bx_w3 := bx_3.cell2
  go_wp2_with fail
  refine (awake4 _).mono ?_
  rintro e w4 ⟨rfl, b4⟩
  have hx_4 := hx_3.below b4
  have hy_4 := hy_3.below b4
  have bx_4 := bx_3.below b4 bx_3.lt
  have F4 := below_then F3 (Nat.le_refl _) b4
  have bx_u4 := bx_4.cell0
  have bx_v4 := bx_4.cell1
  have bx_w4 := bx_4.cell2
  go_wp2
  go_ret
  exact ⟨rfl, F4⟩
theorem lf_mid (s : Bool) (A : Option Addr) (n c : Nat) (B : Option Addr) (m d : Nat) (q : Rat) (P : Int) (w : World) (h : Cq w s A n c B m d q) (hn : n ≤ 8) (hm : m ≤ 8) (h1 : 60 < P) (h2 : P ≤ 4000) : Calls Tryz.prog 3 #[.agg #[.bool s, .slice A n c, .slice B m d], .int .i64 P] w (fun e w' => e = .returned (.bool true) ∧ Below w.heap.size w w') := by
  have d1 : decide (60 < P) = true := decide_eq_true h1
  have d2 : decide (P ≤ 4000) = true := decide_eq_true h2
  have h_1 := h.alloc (EQ s A n c B m d)
  have bx_1 : Sq ((w).alloc (EQ s A n c B m d)) (w.heap.size) (.bool s) (.slice A n c) (.slice B m d) := by have h_ := Sq.new (w) (.bool s) (.slice A n c) (.slice B m d); exact h_
  have F1 := (Below.refl w.heap.size w).alloc (Nat.le_refl _) (EQ s A n c B m d)
  go_enter Tryz.func3, Tryz.ntmps3
  go_wp2_with fail
  refine (awake4 _).mono ?_
  rintro e w2 ⟨rfl, b2⟩
  have h_2 := h_1.below b2
  have bx_2 := bx_1.below b2 bx_1.lt
  have F2 := below_then F1 (Nat.le_refl _) b2
  have bx_u2 := bx_2.cell0
  have bx_v2 := bx_2.cell1
  have bx_w2 := bx_2.cell2
  go_wp2_with fail
  refine (fair_yes _ _ _ _ _ _ _ q _ h_2 hn hm).mono ?_
  rintro e w3 ⟨rfl, b3⟩
  have h_3 := h_2.below b3
  have bx_3 := bx_2.below b3 bx_2.lt
  have F3 := below_then F2 (Nat.le_refl _) b3
  have bx_u3 := bx_3.cell0
  have bx_v3 := bx_3.cell1
  have bx_w3 := bx_3.cell2
  go_wp2_with fail
  refine (awake4 _).mono ?_
  rintro e w4 ⟨rfl, b4⟩
  have h_4 := h_3.below b4
  have bx_4 := bx_3.below b4 bx_3.lt
  have F4 := below_then F3 (Nat.le_refl _) b4
  have bx_u4 := bx_4.cell0
  have bx_v4 := bx_4.cell1
  have bx_w4 := bx_4.cell2
  go_wp2
  go_ret
  exact ⟨rfl, F4⟩
theorem lf_neg (s : Bool) (A : Option Addr) (n c : Nat) (B : Option Addr) (m d : Nat) (q : Rat) (P : Int) (w : World) (h : Cq w s A n c B m d q) (hn : n ≤ 8) (hm : m ≤ 8) (h1 : P < 0) : Calls Tryz.prog 3 #[.agg #[.bool s, .slice A n c, .slice B m d], .int .i64 P] w (fun e w' => e = .returned (.bool true) ∧ Below w.heap.size w w') := by
  have d1 : decide (60 < P) = false := decide_eq_false (by omega)
  have HB := hide (show P < 0 ∨ 4000 < P by omega)
  have he : ((bs []).toList == (bs []).toList) = true := by simp
  have h_1 := h.alloc (EQ s A n c B m d)
  have bx_1 : Sq ((w).alloc (EQ s A n c B m d)) (w.heap.size) (.bool s) (.slice A n c) (.slice B m d) := by have h_ := Sq.new (w) (.bool s) (.slice A n c) (.slice B m d); exact h_
  have F1 := (Below.refl w.heap.size w).alloc (Nat.le_refl _) (EQ s A n c B m d)
  go_enter Tryz.func3, Tryz.ntmps3
  go_wp2_with fail
  refine (awake4 _).mono ?_
  rintro e w2 ⟨rfl, b2⟩
  have h_2 := h_1.below b2
  have bx_2 := bx_1.below b2 bx_1.lt
  have F2 := below_then F1 (Nat.le_refl _) b2
  have bx_u2 := bx_2.cell0
  have bx_v2 := bx_2.cell1
  have bx_w2 := bx_2.cell2
  go_wp2_with fail
  refine (fair_yes _ _ _ _ _ _ _ q _ h_2 hn hm).mono ?_
  rintro e w3 ⟨rfl, b3⟩
  have h_3 := h_2.below b3
  have bx_3 := bx_2.below b3 bx_2.lt
  have F3 := below_then F2 (Nat.le_refl _) b3
  have bx_u3 := bx_3.cell0
  have bx_v3 := bx_3.cell1
  have bx_w3 := bx_3.cell2
  go_wp2_with fail
  refine (fixed_bad _ _ _ _ _ _ _ P _ HB.out).mono ?_
  rintro e w4 ⟨rfl, b4⟩
  have h_4 := h_3.below b4
  have bx_4 := bx_3.below b4 bx_3.lt
  have F4 := below_then F3 (Nat.le_refl _) b4
  have bx_u4 := bx_4.cell0
  have bx_v4 := bx_4.cell1
  have bx_w4 := bx_4.cell2
  go_wp2_with fail
  refine (rfixed_bad _ _ _ _ _ _ _ P _ HB.out).mono ?_
  rintro e w5 ⟨rfl, b5⟩
  have h_5 := h_4.below b5
  have bx_5 := bx_4.below b5 bx_4.lt
  have F5 := below_then F4 (Nat.le_refl _) b5
  have bx_u5 := bx_5.cell0
  have bx_v5 := bx_5.cell1
  have bx_w5 := bx_5.cell2
  go_wp2
  go_ret
  exact ⟨rfl, F5⟩
theorem lf_big (s : Bool) (A : Option Addr) (n c : Nat) (B : Option Addr) (m d : Nat) (q : Rat) (P : Int) (w : World) (h : Cq w s A n c B m d q) (hn : n ≤ 8) (hm : m ≤ 8) (h1 : 4000 < P) : Calls Tryz.prog 3 #[.agg #[.bool s, .slice A n c, .slice B m d], .int .i64 P] w (fun e w' => e = .returned (.bool true) ∧ Below w.heap.size w w') := by
  have d1 : decide (60 < P) = true := decide_eq_true (by omega)
  have d2 : decide (P ≤ 4000) = false := decide_eq_false (by omega)
  have HB := hide (show P < 0 ∨ 4000 < P by omega)
  have he : ((bs []).toList == (bs []).toList) = true := by simp
  have h_1 := h.alloc (EQ s A n c B m d)
  have bx_1 : Sq ((w).alloc (EQ s A n c B m d)) (w.heap.size) (.bool s) (.slice A n c) (.slice B m d) := by have h_ := Sq.new (w) (.bool s) (.slice A n c) (.slice B m d); exact h_
  have F1 := (Below.refl w.heap.size w).alloc (Nat.le_refl _) (EQ s A n c B m d)
  go_enter Tryz.func3, Tryz.ntmps3
  go_wp2_with fail
  refine (awake4 _).mono ?_
  rintro e w2 ⟨rfl, b2⟩
  have h_2 := h_1.below b2
  have bx_2 := bx_1.below b2 bx_1.lt
  have F2 := below_then F1 (Nat.le_refl _) b2
  have bx_u2 := bx_2.cell0
  have bx_v2 := bx_2.cell1
  have bx_w2 := bx_2.cell2
  go_wp2_with fail
  refine (fair_yes _ _ _ _ _ _ _ q _ h_2 hn hm).mono ?_
  rintro e w3 ⟨rfl, b3⟩
  have h_3 := h_2.below b3
  have bx_3 := bx_2.below b3 bx_2.lt
  have F3 := below_then F2 (Nat.le_refl _) b3
  have bx_u3 := bx_3.cell0
  have bx_v3 := bx_3.cell1
  have bx_w3 := bx_3.cell2
  go_wp2_with fail
  refine (fixed_bad _ _ _ _ _ _ _ P _ HB.out).mono ?_
  rintro e w4 ⟨rfl, b4⟩
  have h_4 := h_3.below b4
  have bx_4 := bx_3.below b4 bx_3.lt
  have F4 := below_then F3 (Nat.le_refl _) b4
  have bx_u4 := bx_4.cell0
  have bx_v4 := bx_4.cell1
  have bx_w4 := bx_4.cell2
  go_wp2_with fail
  refine (rfixed_bad _ _ _ _ _ _ _ P _ HB.out).mono ?_
  rintro e w5 ⟨rfl, b5⟩
  have h_5 := h_4.below b5
  have bx_5 := bx_4.below b5 bx_4.lt
  have F5 := below_then F4 (Nat.le_refl _) b5
  have bx_u5 := bx_5.cell0
  have bx_v5 := bx_5.cell1
  have bx_w5 := bx_5.cell2
  go_wp2
  go_ret
  exact ⟨rfl, F5⟩
theorem lf_yes (s : Bool) (A : Option Addr) (n c : Nat) (B : Option Addr) (m d : Nat) (q : Rat) (P : Int) (w : World) (h : Cq w s A n c B m d q) (hn : n ≤ 8) (hm : m ≤ 8) (h1 : 0 ≤ P) (h2 : P ≤ 60) : Calls Tryz.prog 3 #[.agg #[.bool s, .slice A n c, .slice B m d], .int .i64 P] w (fun e w' => e = .returned (.bool true) ∧ Below w.heap.size w w') := by
  have hs : Qs 8 q := h.iq.size hn hm (by omega)
  have k1 : 8 ≤ 1000 := by omega
  have k2 : 1 ≤ 8 := by omega
  have k3 : 8 ≤ 16384 := by omega
  have d1 : decide (60 < P) = false := decide_eq_false (by omega)
  obtain ⟨p, hp⟩ : ∃ p : Nat, P = (p : Int) := ⟨P.toNat, by omega⟩
  have k4 : p ≤ 4000 := by omega
  obtain ⟨L, hL⟩ : ∃ L, ffix q p = L := ⟨_, rfl⟩
  have HP := hide hp
  have HL := hide hL
  have he : ((bs L).toList == (bs L).toList) = true := by simp
  clear hp hL
  have h_1 := h.alloc (EQ s A n c B m d)
  have bx_1 : Sq ((w).alloc (EQ s A n c B m d)) (w.heap.size) (.bool s) (.slice A n c) (.slice B m d) := by have h_ := Sq.new (w) (.bool s) (.slice A n c) (.slice B m d); exact h_
  have F1 := (Below.refl w.heap.size w).alloc (Nat.le_refl _) (EQ s A n c B m d)
  go_enter Tryz.func3, Tryz.ntmps3
  go_wp2_with fail
  refine (awake4 _).mono ?_
  rintro e w2 ⟨rfl, b2⟩
  have h_2 := h_1.below b2
  have bx_2 := bx_1.below b2 bx_1.lt
  have F2 := below_then F1 (Nat.le_refl _) b2
  have bx_u2 := bx_2.cell0
  have bx_v2 := bx_2.cell1
  have bx_w2 := bx_2.cell2
  go_wp2_with fail
  refine (fair_yes _ _ _ _ _ _ _ q _ h_2 hn hm).mono ?_
  rintro e w3 ⟨rfl, b3⟩
  have h_3 := h_2.below b3
  have bx_3 := bx_2.below b3 bx_2.lt
  have F3 := below_then F2 (Nat.le_refl _) b3
  have bx_u3 := bx_3.cell0
  have bx_v3 := bx_3.cell1
  have bx_w3 := bx_3.cell2
  go_wp2_with fail
  refine (fixed_at _ _ _ _ _ _ _ q 8 p P L _ HP.out HL.out h_3 hs k1 k2 k4).mono ?_
  rintro e w4 ⟨rfl, b4⟩
  have h_4 := h_3.below b4
  have bx_4 := bx_3.below b4 bx_3.lt
  have F4 := below_then F3 (Nat.le_refl _) b4
  have bx_u4 := bx_4.cell0
  have bx_v4 := bx_4.cell1
  have bx_w4 := bx_4.cell2
  go_wp2_with fail
  refine (rfixed_at _ _ _ _ _ _ _ q 8 p P L _ HP.out HL.out h_4 hs k1 k2 k4).mono ?_
  rintro e w5 ⟨rfl, b5⟩
  have h_5 := h_4.below b5
  have bx_5 := bx_4.below b5 bx_4.lt
  have F5 := below_then F4 (Nat.le_refl _) b5
  have bx_u5 := bx_5.cell0
  have bx_v5 := bx_5.cell1
  have bx_w5 := bx_5.cell2
  go_wp2
  go_ret
  exact ⟨rfl, F5⟩
theorem txt_len (q : Rat) : (txt q).length ≤ 2 + (dtx q.num.natAbs).length + (dtx q.den).length := by
  unfold txt
  rw [List.length_append, List.length_append]
  have : (if q.num < 0 then [45] else ([] : List UInt8)).length ≤ 1 := by split <;> decide
  have h2 : (if q.den = 1 then ([] : List UInt8) else 47 :: dtx q.den).length ≤ 1 + (dtx q.den).length := by
    split
    · exact Nat.zero_le _
    · rw [List.length_cons]; omega
  omega
/-- The text of a number of few limbs is parsed as the number. -/
theorem text_back (q : Rat) (K : Nat) (h : Qs K q) (hK : K ≤ 200) (hK1 : 1 ≤ K) : pparse (txt q) = (q, 0, 0) ∧ (txt q).length ≤ 100000 := by
  have h1 := dtx_pw h.1 hK1
  have h2 := dtx_pw h.2 hK1
  have h3 := txt_len q
  exact ⟨pparse_txt q (by omega), by omega⟩
theorem parse_back (l : List UInt8) (hl : l.length ≤ 200) : pparse (txt (pparse l).1) = ((pparse l).1, 0, 0) ∧ (txt (pparse l).1).length ≤ 100000 := by
  have h := pparse_size l
  have m1 : 10 ^ l.length ≤ 10 ^ 200 := Nat.pow_le_pow_right (by decide) hl
  have m2 : 10 ^ 200 < 10 ^ 201 := Nat.pow_lt_pow_right (by decide) (by decide)
  have h1 := dtx_len (n := (pparse l).1.num.natAbs) (k := 200) (by omega) (by decide)
  have h2 := dtx_len (n := (pparse l).1.den) (k := 201) (by omega) (by decide)
  have h3 := txt_len (pparse l).1
  exact ⟨pparse_txt _ (by omega), by omega⟩
end Go.Proofs.YtjpchbcenbjibaaGreatDoor
