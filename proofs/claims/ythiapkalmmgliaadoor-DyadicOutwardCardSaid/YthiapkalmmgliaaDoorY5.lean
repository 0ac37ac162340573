/-
  The walk of DyadicMonotone.
-/
import Derived.Test.YthiapkalmmgliaaDoorY2
import Derived.Test.YthiapkalmmgliaaDoorY3
namespace Go.Proofs.YthiapkalmmgliaaDoor
open Go.RowKit
set_option linter.unusedVariables false
set_option linter.unusedSimpArgs false

theorem tq_qs {q : Rat} {k : Nat} (up : Bool) (hs : Qs 3 q) (hk : 1 ≤ k) (hk2 : k ≤ 101) : Qs 4000 (tq q k up) ∧ dm (tq q k up) < pw 7 ∧ -1048576 ≤ de (tq q k up) ∧ de (tq q k up) ≤ 1048576 := by
  have h1 := tq_de (k := k) up hk hs
  have h2 : dm (tq q k up) < pw 7 := tq_pw up hk (by omega)
  have h3 : Isd (tq q k up) := by
    cases up
    · exact (dk_iff.1 (tq_dn q hk).1).1
    · exact (dk_iff.1 (tq_up q hk).1).1
  exact ⟨(qs_dy h3 h2 (by decide) (by omega)).mono (by decide), h2, by omega, by omega⟩
theorem le_sz {a b : Rat} (h : a ≤ b) : decide (sz (a - b).num ≤ 0) = true := by
  rw [decide_eq_true_eq, sz_le]
  exact Int.not_lt.1 fun hh => by
    have h1 : 0 ≤ a - b := Rat.num_nonneg.1 (Int.le_of_lt hh)
    have h2 : a - b = 0 := by grind
    rw [h2] at hh
    exact absurd hh (by decide)
theorem gt_sz {a b : Rat} (h : ¬ a ≤ b) : decide (0 < sz (a - b).num) = true := by
  rw [decide_eq_true_eq]
  refine Int.not_le.1 fun hh => ?_
  rw [sz_le] at hh
  have h1 : 0 < a - b := by have := Rat.not_le.1 h; grind
  have h2 : 0 ≤ (a - b).num := Rat.num_nonneg.2 (Rat.le_of_lt h1)
  have h3 : a - b = 0 := Rat.num_eq_zero.1 (by omega)
  rw [h3] at h1
  exact absurd h1 (by decide)
theorem Iq.storQ {w : World} {s : Bool} {A B : Option Addr} {n c m d : Nat} {q : Rat} (h : Iq w s A n c B m d q) {g : Nat} {s0 : Bool} {A0 B0 : Option Addr} {l0 d0 l1 d1 : Nat} (hs : Sq w g (.bool s0) (.slice A0 l0 d0) (.slice B0 l1 d1)) (u0 u1 u2 : Value) :
    Iq (((w.setCell ⟨g, 0, none⟩ u0).setCell ⟨g, 1, none⟩ u1).setCell ⟨g, 2, none⟩ u2) s A n c B m d q := by
  obtain ⟨xs, ys, h1, h2, h3⟩ := h
  exact ⟨xs, ys, h1.storQ hs _ _ _, h2.storQ hs _ _ _, h3⟩
set_option maxHeartbeats 4000000 in
theorem dm_n1 (s : Bool) (A : Option Addr) (n c : Nat) (B : Option Addr) (m d : Nat) (t : Bool) (A' : Option Addr) (n' c' : Nat) (B' : Option Addr) (m' d' : Nat) (o : Int) (p q : Rat) (w : World) (ho : 0 ≤ o ∧ o < 256) (h : Iq w s A n c B m d p) (k : Iq w t A' n' c' B' m' d' q) (hh : ¬ (n ≤ 3 ∧ m ≤ 3)) (T : Tb w) : Calls Tryd.prog 7 #[.agg #[.bool s, .slice A n c, .slice B m d], .agg #[.bool t, .slice A' n' c', .slice B' m' d'], .int .u8 o] w (fun e w' => e = .returned (.bool true) ∧ Below w.heap.size w w') := by
  have ho1 : 0 ≤ o := ho.1
  have ho2 : o < 256 := ho.2
  obtain ⟨K, hK⟩ : ∃ K : Nat, o % 60 + 1 = (K : Int) := ⟨(o % 60 + 1).toNat, by omega⟩
  have hK1 : 1 ≤ K ∧ K ≤ 60 := by omega
  have w1 : IntKind.u8.wrap (o.tmod 60) = o % 60 := by rw [Int.tmod_eq_emod_of_nonneg ho.1]; (first | go_num | (simp [IntKind.wrap, IntKind.bits, IntKind.signed]; omega))
  have w2 : IntKind.i64.wrap (o % 60) = o % 60 := by (first | go_num | (simp [IntKind.wrap, IntKind.bits, IntKind.signed]; omega))
  have w3 : IntKind.i64.wrap (o % 60 + 1) = o % 60 + 1 := by (first | go_num | (simp [IntKind.wrap, IntKind.bits, IntKind.signed]; omega))
  have w4 : IntKind.i64.wrap ((K : Int) + 1) = ((K + 1 : Nat) : Int) := by (first | go_num | (simp [IntKind.wrap, IntKind.bits, IntKind.signed]; omega))
  have HN := hide hh
  clear h k hh
  have T_1 := T.alloc (EQ s A n c B m d)
  have bx_1 : Sq ((w).alloc (EQ s A n c B m d)) (w.heap.size) (.bool s) (.slice A n c) (.slice B m d) := by have h_ := Sq.new (w) (.bool s) (.slice A n c) (.slice B m d); exact h_
  have F1 := (Below.refl w.heap.size w).alloc (Nat.le_refl _) (EQ s A n c B m d)
  have T_2 := T_1.alloc (EQ t A' n' c' B' m' d')
  have bx_2 := bx_1.alloc (EQ t A' n' c' B' m' d')
  have by_2 : Sq (((w).alloc (EQ s A n c B m d)).alloc (EQ t A' n' c' B' m' d')) (w.heap.size + 1) (.bool t) (.slice A' n' c') (.slice B' m' d') := by have h_ := Sq.new ((w).alloc (EQ s A n c B m d)) (.bool t) (.slice A' n' c') (.slice B' m' d'); simp only [World.size_alloc] at h_; exact h_
  have F2 := F1.alloc F1.size (EQ t A' n' c' B' m' d')
  go_enter Tryd.func7, Tryd.ntmps7
  go_wp2_with fail
  refine (awake5 _ T_2).mono ?_
  rintro e w3 ⟨rfl, b3⟩
  have T_3 := T_2.below b3
  have bx_3 := bx_2.below b3 bx_2.lt
  have by_3 := by_2.below b3 by_2.lt
  have F3 := below_then F2 (Nat.le_refl _) b3
  have bx_u3 := bx_3.cell0
  have bx_v3 := bx_3.cell1
  have bx_w3 := bx_3.cell2
  have by_u3 := by_3.cell0
  have by_v3 := by_3.cell1
  have by_w3 := by_3.cell2
  go_wp2_with fail
  refine (few_no _ _ _ _ _ _ _ _ HN.out).mono ?_
  rintro e w4 ⟨rfl, b4⟩
  have T_4 := T_3.below b4
  have bx_4 := bx_3.below b4 bx_3.lt
  have by_4 := by_3.below b4 by_3.lt
  have F4 := below_then F3 (Nat.le_refl _) b4
  have bx_u4 := bx_4.cell0
  have bx_v4 := bx_4.cell1
  have bx_w4 := bx_4.cell2
  have by_u4 := by_4.cell0
  have by_v4 := by_4.cell1
  have by_w4 := by_4.cell2
  go_wp2
  go_ret
  exact ⟨rfl, F4⟩
set_option maxHeartbeats 4000000 in
theorem dm_n2 (s : Bool) (A : Option Addr) (n c : Nat) (B : Option Addr) (m d : Nat) (t : Bool) (A' : Option Addr) (n' c' : Nat) (B' : Option Addr) (m' d' : Nat) (o : Int) (p q : Rat) (w : World) (ho : 0 ≤ o ∧ o < 256) (h : Iq w s A n c B m d p) (k : Iq w t A' n' c' B' m' d' q) (hn : n ≤ 3) (hm : m ≤ 3) (hh : ¬ (n' ≤ 3 ∧ m' ≤ 3)) (T : Tb w) : Calls Tryd.prog 7 #[.agg #[.bool s, .slice A n c, .slice B m d], .agg #[.bool t, .slice A' n' c', .slice B' m' d'], .int .u8 o] w (fun e w' => e = .returned (.bool true) ∧ Below w.heap.size w w') := by
  have ho1 : 0 ≤ o := ho.1
  have ho2 : o < 256 := ho.2
  obtain ⟨K, hK⟩ : ∃ K : Nat, o % 60 + 1 = (K : Int) := ⟨(o % 60 + 1).toNat, by omega⟩
  have hK1 : 1 ≤ K ∧ K ≤ 60 := by omega
  have w1 : IntKind.u8.wrap (o.tmod 60) = o % 60 := by rw [Int.tmod_eq_emod_of_nonneg ho.1]; (first | go_num | (simp [IntKind.wrap, IntKind.bits, IntKind.signed]; omega))
  have w2 : IntKind.i64.wrap (o % 60) = o % 60 := by (first | go_num | (simp [IntKind.wrap, IntKind.bits, IntKind.signed]; omega))
  have w3 : IntKind.i64.wrap (o % 60 + 1) = o % 60 + 1 := by (first | go_num | (simp [IntKind.wrap, IntKind.bits, IntKind.signed]; omega))
  have w4 : IntKind.i64.wrap ((K : Int) + 1) = ((K + 1 : Nat) : Int) := by (first | go_num | (simp [IntKind.wrap, IntKind.bits, IntKind.signed]; omega))
  have HN := hide hh
  clear h k hh
  have T_1 := T.alloc (EQ s A n c B m d)
  have bx_1 : Sq ((w).alloc (EQ s A n c B m d)) (w.heap.size) (.bool s) (.slice A n c) (.slice B m d) := by have h_ := Sq.new (w) (.bool s) (.slice A n c) (.slice B m d); exact h_
  have F1 := (Below.refl w.heap.size w).alloc (Nat.le_refl _) (EQ s A n c B m d)
  have T_2 := T_1.alloc (EQ t A' n' c' B' m' d')
  have bx_2 := bx_1.alloc (EQ t A' n' c' B' m' d')
  have by_2 : Sq (((w).alloc (EQ s A n c B m d)).alloc (EQ t A' n' c' B' m' d')) (w.heap.size + 1) (.bool t) (.slice A' n' c') (.slice B' m' d') := by have h_ := Sq.new ((w).alloc (EQ s A n c B m d)) (.bool t) (.slice A' n' c') (.slice B' m' d'); simp only [World.size_alloc] at h_; exact h_
  have F2 := F1.alloc F1.size (EQ t A' n' c' B' m' d')
  go_enter Tryd.func7, Tryd.ntmps7
  go_wp2_with fail
  refine (awake5 _ T_2).mono ?_
  rintro e w3 ⟨rfl, b3⟩
  have T_3 := T_2.below b3
  have bx_3 := bx_2.below b3 bx_2.lt
  have by_3 := by_2.below b3 by_2.lt
  have F3 := below_then F2 (Nat.le_refl _) b3
  have bx_u3 := bx_3.cell0
  have bx_v3 := bx_3.cell1
  have bx_w3 := bx_3.cell2
  have by_u3 := by_3.cell0
  have by_v3 := by_3.cell1
  have by_w3 := by_3.cell2
  go_wp2_with fail
  refine (few_yes _ _ _ _ _ _ _ _ hn hm).mono ?_
  rintro e w4 ⟨rfl, b4⟩
  have T_4 := T_3.below b4
  have bx_4 := bx_3.below b4 bx_3.lt
  have by_4 := by_3.below b4 by_3.lt
  have F4 := below_then F3 (Nat.le_refl _) b4
  have bx_u4 := bx_4.cell0
  have bx_v4 := bx_4.cell1
  have bx_w4 := bx_4.cell2
  have by_u4 := by_4.cell0
  have by_v4 := by_4.cell1
  have by_w4 := by_4.cell2
  go_wp2_with fail
  refine (few_no _ _ _ _ _ _ _ _ HN.out).mono ?_
  rintro e w5 ⟨rfl, b5⟩
  have T_5 := T_4.below b5
  have bx_5 := bx_4.below b5 bx_4.lt
  have by_5 := by_4.below b5 by_4.lt
  have F5 := below_then F4 (Nat.le_refl _) b5
  have bx_u5 := bx_5.cell0
  have bx_v5 := bx_5.cell1
  have bx_w5 := bx_5.cell2
  have by_u5 := by_5.cell0
  have by_v5 := by_5.cell1
  have by_w5 := by_5.cell2
  go_wp2
  go_ret
  exact ⟨rfl, F5⟩
set_option maxHeartbeats 4000000 in
theorem dm_le (s : Bool) (A : Option Addr) (n c : Nat) (B : Option Addr) (m d : Nat) (t : Bool) (A' : Option Addr) (n' c' : Nat) (B' : Option Addr) (m' d' : Nat) (o : Int) (p q : Rat) (w : World) (ho : 0 ≤ o ∧ o < 256) (h : Iq w s A n c B m d p) (k : Iq w t A' n' c' B' m' d' q) (hn : n ≤ 3) (hm : m ≤ 3) (hn' : n' ≤ 3) (hm' : m' ≤ 3) (hpq : p ≤ q) (T : Tb w) : Calls Tryd.prog 7 #[.agg #[.bool s, .slice A n c, .slice B m d], .agg #[.bool t, .slice A' n' c', .slice B' m' d'], .int .u8 o] w (fun e w' => e = .returned (.bool true) ∧ Below w.heap.size w w') := by
  have ho1 : 0 ≤ o := ho.1
  have ho2 : o < 256 := ho.2
  obtain ⟨K, hK⟩ : ∃ K : Nat, o % 60 + 1 = (K : Int) := ⟨(o % 60 + 1).toNat, by omega⟩
  have hK1 : 1 ≤ K ∧ K ≤ 60 := by omega
  have w1 : IntKind.u8.wrap (o.tmod 60) = o % 60 := by rw [Int.tmod_eq_emod_of_nonneg ho.1]; (first | go_num | (simp [IntKind.wrap, IntKind.bits, IntKind.signed]; omega))
  have w2 : IntKind.i64.wrap (o % 60) = o % 60 := by (first | go_num | (simp [IntKind.wrap, IntKind.bits, IntKind.signed]; omega))
  have w3 : IntKind.i64.wrap (o % 60 + 1) = o % 60 + 1 := by (first | go_num | (simp [IntKind.wrap, IntKind.bits, IntKind.signed]; omega))
  have w4 : IntKind.i64.wrap ((K : Int) + 1) = ((K + 1 : Nat) : Int) := by (first | go_num | (simp [IntKind.wrap, IntKind.bits, IntKind.signed]; omega))
  have hsp : Qs 3 p := h.size hn hm (by omega)
  have hsq : Qs 3 q := k.size hn' hm' (by omega)
  have hlo : Qs 3 p := hsp
  have hhi : Qs 3 q := hsq
  have hle : p ≤ q := by exact hpq
  obtain ⟨r, hr⟩ : ∃ r, sz (p - q).num = r := ⟨_, rfl⟩
  have hr0 : decide (0 < r) = false := by
    rw [← hr]
    have := le_sz hpq; simp only [decide_eq_true_eq] at this; simp; omega
  have HR := hide hr
  have zz : 3 ≤ 4000 := by decide
  have n4 : n ≤ 4000 := Nat.le_trans hn zz
  have m4 : m ≤ 4000 := Nat.le_trans hm zz
  have n4' : n' ≤ 4000 := Nat.le_trans hn' zz
  have m4' : m' ≤ 4000 := Nat.le_trans hm' zz
  have HK := hide hK
  have HK1 := hide (show (1 ≤ K ∧ K ≤ 200) ∧ (1 ≤ K + 1 ∧ K + 1 ≤ 200) by omega)
  have Ta := tq_qs false hlo (show 1 ≤ K by omega) (show K ≤ 101 by omega)
  have Tb := tq_qs false hhi (show 1 ≤ K by omega) (show K ≤ 101 by omega)
  have Tc := tq_qs true hlo (show 1 ≤ K by omega) (show K ≤ 101 by omega)
  have Td := tq_qs true hhi (show 1 ≤ K by omega) (show K ≤ 101 by omega)
  have Tf := tq_qs false hlo (show 1 ≤ (K + 1) by omega) (show (K + 1) ≤ 101 by omega)
  have Tg := tq_qs true hlo (show 1 ≤ (K + 1) by omega) (show (K + 1) ≤ 101 by omega)
  have C1 : decide (sz (tq p K false - tq q K false).num ≤ 0) = true := le_sz ((tq_dn p hK1.1).mono (tq_dn q hK1.1) hle)
  have C2 : decide (sz (tq p K true - tq q K true).num ≤ 0) = true := le_sz ((tq_up p hK1.1).mono (tq_up q hK1.1) hle)
  have C3 : decide (sz (tq p K false - tq p (K + 1) false).num ≤ 0) = true := le_sz ((tq_dn p hK1.1).more (tq_dn p (by omega)) (by omega))
  have C4 : decide (sz (tq p (K + 1) true - tq p K true).num ≤ 0) = true := le_sz ((tq_up p hK1.1).more (tq_up p (by omega)) (by omega))
  obtain ⟨va, ha⟩ : ∃ v, tq p K false = v := ⟨_, rfl⟩
  obtain ⟨vb, hb⟩ : ∃ v, tq q K false = v := ⟨_, rfl⟩
  obtain ⟨vc, hc⟩ : ∃ v, tq p K true = v := ⟨_, rfl⟩
  obtain ⟨vd, hd⟩ : ∃ v, tq q K true = v := ⟨_, rfl⟩
  obtain ⟨vf, hf⟩ : ∃ v, tq p (K + 1) false = v := ⟨_, rfl⟩
  obtain ⟨vg, hg⟩ : ∃ v, tq p (K + 1) true = v := ⟨_, rfl⟩
  rw [ha] at Ta C1 C3
  rw [hb] at Tb C1
  rw [hc] at Tc C2 C4
  rw [hd] at Td C2
  rw [hf] at Tf C3
  rw [hg] at Tg C4
  obtain ⟨r1, hr1⟩ : ∃ r, sz (va - vb).num = r := ⟨_, rfl⟩
  obtain ⟨r2, hr2⟩ : ∃ r, sz (vc - vd).num = r := ⟨_, rfl⟩
  obtain ⟨r3, hr3⟩ : ∃ r, sz (va - vf).num = r := ⟨_, rfl⟩
  obtain ⟨r4, hr4⟩ : ∃ r, sz (vg - vc).num = r := ⟨_, rfl⟩
  rw [hr1] at C1
  rw [hr2] at C2
  rw [hr3] at C3
  rw [hr4] at C4
  have R1 := hide hr1
  have R2 := hide hr2
  have R3 := hide hr3
  have R4 := hide hr4
  have Ha := hide ha
  have Qa := hide Ta.1
  have Hb := hide hb
  have Qb := hide Tb.1
  have Hc := hide hc
  have Qc := hide Tc.1
  have Hd := hide hd
  have Qd := hide Td.1
  have Hf := hide hf
  have Qf := hide Tf.1
  have Hg := hide hg
  have Qg := hide Tg.1
  clear hr hr1 hr2 hr3 hr4 ha hb hc hd hf hg Ta Tb Tc Td Tf Tg hsp hsq hlo hhi hle hpq hK hK1 ho
  have h_1 := h.alloc (EQ s A n c B m d)
  have k_1 := k.alloc (EQ s A n c B m d)
  have T_1 := T.alloc (EQ s A n c B m d)
  have bx_1 : Sq ((w).alloc (EQ s A n c B m d)) (w.heap.size) (.bool s) (.slice A n c) (.slice B m d) := by have h_ := Sq.new (w) (.bool s) (.slice A n c) (.slice B m d); exact h_
  have F1 := (Below.refl w.heap.size w).alloc (Nat.le_refl _) (EQ s A n c B m d)
  have h_2 := h_1.alloc (EQ t A' n' c' B' m' d')
  have k_2 := k_1.alloc (EQ t A' n' c' B' m' d')
  have T_2 := T_1.alloc (EQ t A' n' c' B' m' d')
  have bx_2 := bx_1.alloc (EQ t A' n' c' B' m' d')
  have by_2 : Sq (((w).alloc (EQ s A n c B m d)).alloc (EQ t A' n' c' B' m' d')) (w.heap.size + 1) (.bool t) (.slice A' n' c') (.slice B' m' d') := by have h_ := Sq.new ((w).alloc (EQ s A n c B m d)) (.bool t) (.slice A' n' c') (.slice B' m' d'); simp only [World.size_alloc] at h_; exact h_
  have F2 := F1.alloc F1.size (EQ t A' n' c' B' m' d')
  go_enter Tryd.func7, Tryd.ntmps7
  go_wp2_with fail
  refine (awake5 _ T_2).mono ?_
  rintro e w3 ⟨rfl, b3⟩
  have h_3 := h_2.below b3
  have k_3 := k_2.below b3
  have T_3 := T_2.below b3
  have bx_3 := bx_2.below b3 bx_2.lt
  have by_3 := by_2.below b3 by_2.lt
  have F3 := below_then F2 (Nat.le_refl _) b3
  have bx_u3 := bx_3.cell0
  have bx_v3 := bx_3.cell1
  have bx_w3 := bx_3.cell2
  have by_u3 := by_3.cell0
  have by_v3 := by_3.cell1
  have by_w3 := by_3.cell2
  go_wp2_with fail
  refine (few_yes _ _ _ _ _ _ _ _ hn hm).mono ?_
  rintro e w4 ⟨rfl, b4⟩
  have h_4 := h_3.below b4
  have k_4 := k_3.below b4
  have T_4 := T_3.below b4
  have bx_4 := bx_3.below b4 bx_3.lt
  have by_4 := by_3.below b4 by_3.lt
  have F4 := below_then F3 (Nat.le_refl _) b4
  have bx_u4 := bx_4.cell0
  have bx_v4 := bx_4.cell1
  have bx_w4 := bx_4.cell2
  have by_u4 := by_4.cell0
  have by_v4 := by_4.cell1
  have by_w4 := by_4.cell2
  go_wp2_with fail
  refine (few_yes _ _ _ _ _ _ _ _ hn' hm').mono ?_
  rintro e w5 ⟨rfl, b5⟩
  have h_5 := h_4.below b5
  have k_5 := k_4.below b5
  have T_5 := T_4.below b5
  have bx_5 := bx_4.below b5 bx_4.lt
  have by_5 := by_4.below b5 by_4.lt
  have F5 := below_then F4 (Nat.le_refl _) b5
  have bx_u5 := bx_5.cell0
  have bx_v5 := bx_5.cell1
  have bx_w5 := bx_5.cell2
  have by_u5 := by_5.cell0
  have by_v5 := by_5.cell1
  have by_w5 := by_5.cell2
  go_wp2_with fail
  refine (rcmp_q _ _ _ _ _ _ _ _ _ _ _ _ _ _ p q r _ HR.out h_5 k_5 n4 m4 n4' m4').mono ?_
  rintro e w6 ⟨rfl, b6⟩
  have h_6 := h_5.below b6
  have k_6 := k_5.below b6
  have T_6 := T_5.below b6
  have bx_6 := bx_5.below b6 bx_5.lt
  have by_6 := by_5.below b6 by_5.lt
  have F6 := below_then F5 (Nat.le_refl _) b6
  have bx_u6 := bx_6.cell0
  have bx_v6 := bx_6.cell1
  have bx_w6 := bx_6.cell2
  have by_u6 := by_6.cell0
  have by_v6 := by_6.cell1
  have by_w6 := by_6.cell2
  go_wp2_with fail
  refine (ydown_at _ _ _ _ _ _ _ K _ p va _ Ha.out HK.out h_6 hn hm HK1.out.1 T_6).mono ?_
  rintro e w7 ⟨s7, A7, n7, c7, x7, rfl, ya, b7⟩
  have h_7 := h_6.below b7
  have k_7 := k_6.below b7
  have T_7 := T_6.below b7
  have bx_7 := bx_6.below b7 bx_6.lt
  have by_7 := by_6.below b7 by_6.lt
  have F7 := below_then F6 (Nat.le_refl _) b7
  have bx_u7 := bx_7.cell0
  have bx_v7 := bx_7.cell1
  have bx_w7 := bx_7.cell2
  have by_u7 := by_7.cell0
  have by_v7 := by_7.cell1
  have by_w7 := by_7.cell2
  have lt_ba_bx := bx_7.lt
  have lt_ba_by := by_7.lt
  have h_8 := h_7.alloc (EY s7 A7 n7 c7 x7)
  have k_8 := k_7.alloc (EY s7 A7 n7 c7 x7)
  have T_8 := T_7.alloc (EY s7 A7 n7 c7 x7)
  have ya_8 := ya.alloc (EY s7 A7 n7 c7 x7)
  have bx_8 := bx_7.alloc (EY s7 A7 n7 c7 x7)
  have by_8 := by_7.alloc (EY s7 A7 n7 c7 x7)
  have ba_8 : Sy ((w7).alloc (EY s7 A7 n7 c7 x7)) (w7.heap.size) (.bool s7) (.slice A7 n7 c7) (.int .i64 x7) := by have h_ := Sy.new (w7) (.bool s7) (.slice A7 n7 c7) (.int .i64 x7); exact h_
  have F8 := F7.alloc F7.size (EY s7 A7 n7 c7 x7)
  have bx_u8 := bx_8.cell0
  have bx_v8 := bx_8.cell1
  have bx_w8 := bx_8.cell2
  have by_u8 := by_8.cell0
  have by_v8 := by_8.cell1
  have by_w8 := by_8.cell2
  have ba_u8 := ba_8.cell0
  have ba_v8 := ba_8.cell1
  have ba_w8 := ba_8.cell2
  go_wp2_with fail
  refine (ydown_at _ _ _ _ _ _ _ K _ q vb _ Hb.out HK.out k_8 hn' hm' HK1.out.1 T_8).mono ?_
  rintro e w9 ⟨s9, A9, n9, c9, x9, rfl, yb, b9⟩
  have h_9 := h_8.below b9
  have k_9 := k_8.below b9
  have T_9 := T_8.below b9
  have ya_9 := ya_8.below b9
  have bx_9 := bx_8.below b9 bx_8.lt
  have by_9 := by_8.below b9 by_8.lt
  have ba_9 := ba_8.below b9 ba_8.lt
  have F9 := below_then F8 (Nat.le_refl _) b9
  have bx_u9 := bx_9.cell0
  have bx_v9 := bx_9.cell1
  have bx_w9 := bx_9.cell2
  have by_u9 := by_9.cell0
  have by_v9 := by_9.cell1
  have by_w9 := by_9.cell2
  have ba_u9 := ba_9.cell0
  have ba_v9 := ba_9.cell1
  have ba_w9 := ba_9.cell2
  have lt_bb_bx := bx_9.lt
  have lt_bb_by := by_9.lt
  have lt_bb_ba := ba_9.lt
  have h_10 := h_9.alloc (EY s9 A9 n9 c9 x9)
  have k_10 := k_9.alloc (EY s9 A9 n9 c9 x9)
  have T_10 := T_9.alloc (EY s9 A9 n9 c9 x9)
  have ya_10 := ya_9.alloc (EY s9 A9 n9 c9 x9)
  have yb_10 := yb.alloc (EY s9 A9 n9 c9 x9)
  have bx_10 := bx_9.alloc (EY s9 A9 n9 c9 x9)
  have by_10 := by_9.alloc (EY s9 A9 n9 c9 x9)
  have ba_10 := ba_9.alloc (EY s9 A9 n9 c9 x9)
  have bb_10 : Sy ((w9).alloc (EY s9 A9 n9 c9 x9)) (w9.heap.size) (.bool s9) (.slice A9 n9 c9) (.int .i64 x9) := by have h_ := Sy.new (w9) (.bool s9) (.slice A9 n9 c9) (.int .i64 x9); exact h_
  have F10 := F9.alloc F9.size (EY s9 A9 n9 c9 x9)
  have bx_u10 := bx_10.cell0
  have bx_v10 := bx_10.cell1
  have bx_w10 := bx_10.cell2
  have by_u10 := by_10.cell0
  have by_v10 := by_10.cell1
  have by_w10 := by_10.cell2
  have ba_u10 := ba_10.cell0
  have ba_v10 := ba_10.cell1
  have ba_w10 := ba_10.cell2
  have bb_u10 := bb_10.cell0
  have bb_v10 := bb_10.cell1
  have bb_w10 := bb_10.cell2
  go_wp2_with fail
  refine (yup_at _ _ _ _ _ _ _ K _ p vc _ Hc.out HK.out h_10 hn hm HK1.out.1 T_10).mono ?_
  rintro e w11 ⟨s11, A11, n11, c11, x11, rfl, yc, b11⟩
  have h_11 := h_10.below b11
  have k_11 := k_10.below b11
  have T_11 := T_10.below b11
  have ya_11 := ya_10.below b11
  have yb_11 := yb_10.below b11
  have bx_11 := bx_10.below b11 bx_10.lt
  have by_11 := by_10.below b11 by_10.lt
  have ba_11 := ba_10.below b11 ba_10.lt
  have bb_11 := bb_10.below b11 bb_10.lt
  have F11 := below_then F10 (Nat.le_refl _) b11
  have bx_u11 := bx_11.cell0
  have bx_v11 := bx_11.cell1
  have bx_w11 := bx_11.cell2
  have by_u11 := by_11.cell0
  have by_v11 := by_11.cell1
  have by_w11 := by_11.cell2
  have ba_u11 := ba_11.cell0
  have ba_v11 := ba_11.cell1
  have ba_w11 := ba_11.cell2
  have bb_u11 := bb_11.cell0
  have bb_v11 := bb_11.cell1
  have bb_w11 := bb_11.cell2
  have lt_bc_bx := bx_11.lt
  have lt_bc_by := by_11.lt
  have lt_bc_ba := ba_11.lt
  have lt_bc_bb := bb_11.lt
  have h_12 := h_11.alloc (EY s11 A11 n11 c11 x11)
  have k_12 := k_11.alloc (EY s11 A11 n11 c11 x11)
  have T_12 := T_11.alloc (EY s11 A11 n11 c11 x11)
  have ya_12 := ya_11.alloc (EY s11 A11 n11 c11 x11)
  have yb_12 := yb_11.alloc (EY s11 A11 n11 c11 x11)
  have yc_12 := yc.alloc (EY s11 A11 n11 c11 x11)
  have bx_12 := bx_11.alloc (EY s11 A11 n11 c11 x11)
  have by_12 := by_11.alloc (EY s11 A11 n11 c11 x11)
  have ba_12 := ba_11.alloc (EY s11 A11 n11 c11 x11)
  have bb_12 := bb_11.alloc (EY s11 A11 n11 c11 x11)
  have bc_12 : Sy ((w11).alloc (EY s11 A11 n11 c11 x11)) (w11.heap.size) (.bool s11) (.slice A11 n11 c11) (.int .i64 x11) := by have h_ := Sy.new (w11) (.bool s11) (.slice A11 n11 c11) (.int .i64 x11); exact h_
  have F12 := F11.alloc F11.size (EY s11 A11 n11 c11 x11)
  have bx_u12 := bx_12.cell0
  have bx_v12 := bx_12.cell1
  have bx_w12 := bx_12.cell2
  have by_u12 := by_12.cell0
  have by_v12 := by_12.cell1
  have by_w12 := by_12.cell2
  have ba_u12 := ba_12.cell0
  have ba_v12 := ba_12.cell1
  have ba_w12 := ba_12.cell2
  have bb_u12 := bb_12.cell0
  have bb_v12 := bb_12.cell1
  have bb_w12 := bb_12.cell2
  have bc_u12 := bc_12.cell0
  have bc_v12 := bc_12.cell1
  have bc_w12 := bc_12.cell2
  go_wp2_with fail
  refine (yup_at _ _ _ _ _ _ _ K _ q vd _ Hd.out HK.out k_12 hn' hm' HK1.out.1 T_12).mono ?_
  rintro e w13 ⟨s13, A13, n13, c13, x13, rfl, yd, b13⟩
  have h_13 := h_12.below b13
  have k_13 := k_12.below b13
  have T_13 := T_12.below b13
  have ya_13 := ya_12.below b13
  have yb_13 := yb_12.below b13
  have yc_13 := yc_12.below b13
  have bx_13 := bx_12.below b13 bx_12.lt
  have by_13 := by_12.below b13 by_12.lt
  have ba_13 := ba_12.below b13 ba_12.lt
  have bb_13 := bb_12.below b13 bb_12.lt
  have bc_13 := bc_12.below b13 bc_12.lt
  have F13 := below_then F12 (Nat.le_refl _) b13
  have bx_u13 := bx_13.cell0
  have bx_v13 := bx_13.cell1
  have bx_w13 := bx_13.cell2
  have by_u13 := by_13.cell0
  have by_v13 := by_13.cell1
  have by_w13 := by_13.cell2
  have ba_u13 := ba_13.cell0
  have ba_v13 := ba_13.cell1
  have ba_w13 := ba_13.cell2
  have bb_u13 := bb_13.cell0
  have bb_v13 := bb_13.cell1
  have bb_w13 := bb_13.cell2
  have bc_u13 := bc_13.cell0
  have bc_v13 := bc_13.cell1
  have bc_w13 := bc_13.cell2
  have lt_bd_bx := bx_13.lt
  have lt_bd_by := by_13.lt
  have lt_bd_ba := ba_13.lt
  have lt_bd_bb := bb_13.lt
  have lt_bd_bc := bc_13.lt
  have h_14 := h_13.alloc (EY s13 A13 n13 c13 x13)
  have k_14 := k_13.alloc (EY s13 A13 n13 c13 x13)
  have T_14 := T_13.alloc (EY s13 A13 n13 c13 x13)
  have ya_14 := ya_13.alloc (EY s13 A13 n13 c13 x13)
  have yb_14 := yb_13.alloc (EY s13 A13 n13 c13 x13)
  have yc_14 := yc_13.alloc (EY s13 A13 n13 c13 x13)
  have yd_14 := yd.alloc (EY s13 A13 n13 c13 x13)
  have bx_14 := bx_13.alloc (EY s13 A13 n13 c13 x13)
  have by_14 := by_13.alloc (EY s13 A13 n13 c13 x13)
  have ba_14 := ba_13.alloc (EY s13 A13 n13 c13 x13)
  have bb_14 := bb_13.alloc (EY s13 A13 n13 c13 x13)
  have bc_14 := bc_13.alloc (EY s13 A13 n13 c13 x13)
  have bd_14 : Sy ((w13).alloc (EY s13 A13 n13 c13 x13)) (w13.heap.size) (.bool s13) (.slice A13 n13 c13) (.int .i64 x13) := by have h_ := Sy.new (w13) (.bool s13) (.slice A13 n13 c13) (.int .i64 x13); exact h_
  have F14 := F13.alloc F13.size (EY s13 A13 n13 c13 x13)
  have bx_u14 := bx_14.cell0
  have bx_v14 := bx_14.cell1
  have bx_w14 := bx_14.cell2
  have by_u14 := by_14.cell0
  have by_v14 := by_14.cell1
  have by_w14 := by_14.cell2
  have ba_u14 := ba_14.cell0
  have ba_v14 := ba_14.cell1
  have ba_w14 := ba_14.cell2
  have bb_u14 := bb_14.cell0
  have bb_v14 := bb_14.cell1
  have bb_w14 := bb_14.cell2
  have bc_u14 := bc_14.cell0
  have bc_v14 := bc_14.cell1
  have bc_w14 := bc_14.cell2
  have bd_u14 := bd_14.cell0
  have bd_v14 := bd_14.cell1
  have bd_w14 := bd_14.cell2
  go_wp2_with fail
  refine (ydown_at _ _ _ _ _ _ _ (K + 1) _ p vf _ Hf.out (by have := HK.out; omega) h_14 hn hm HK1.out.2 T_14).mono ?_
  rintro e w15 ⟨s15, A15, n15, c15, x15, rfl, yf, b15⟩
  have h_15 := h_14.below b15
  have T_15 := T_14.below b15
  have ya_15 := ya_14.below b15
  have yb_15 := yb_14.below b15
  have yc_15 := yc_14.below b15
  have yd_15 := yd_14.below b15
  have bx_15 := bx_14.below b15 bx_14.lt
  have ba_15 := ba_14.below b15 ba_14.lt
  have bb_15 := bb_14.below b15 bb_14.lt
  have bc_15 := bc_14.below b15 bc_14.lt
  have bd_15 := bd_14.below b15 bd_14.lt
  have F15 := below_then F14 (Nat.le_refl _) b15
  have bx_u15 := bx_15.cell0
  have bx_v15 := bx_15.cell1
  have bx_w15 := bx_15.cell2
  have ba_u15 := ba_15.cell0
  have ba_v15 := ba_15.cell1
  have ba_w15 := ba_15.cell2
  have bb_u15 := bb_15.cell0
  have bb_v15 := bb_15.cell1
  have bb_w15 := bb_15.cell2
  have bc_u15 := bc_15.cell0
  have bc_v15 := bc_15.cell1
  have bc_w15 := bc_15.cell2
  have bd_u15 := bd_15.cell0
  have bd_v15 := bd_15.cell1
  have bd_w15 := bd_15.cell2
  have lt_bf_bx := bx_15.lt
  have lt_bf_ba := ba_15.lt
  have lt_bf_bb := bb_15.lt
  have lt_bf_bc := bc_15.lt
  have lt_bf_bd := bd_15.lt
  have h_16 := h_15.alloc (EY s15 A15 n15 c15 x15)
  have T_16 := T_15.alloc (EY s15 A15 n15 c15 x15)
  have ya_16 := ya_15.alloc (EY s15 A15 n15 c15 x15)
  have yb_16 := yb_15.alloc (EY s15 A15 n15 c15 x15)
  have yc_16 := yc_15.alloc (EY s15 A15 n15 c15 x15)
  have yd_16 := yd_15.alloc (EY s15 A15 n15 c15 x15)
  have yf_16 := yf.alloc (EY s15 A15 n15 c15 x15)
  have bx_16 := bx_15.alloc (EY s15 A15 n15 c15 x15)
  have ba_16 := ba_15.alloc (EY s15 A15 n15 c15 x15)
  have bb_16 := bb_15.alloc (EY s15 A15 n15 c15 x15)
  have bc_16 := bc_15.alloc (EY s15 A15 n15 c15 x15)
  have bd_16 := bd_15.alloc (EY s15 A15 n15 c15 x15)
  have bf_16 : Sy ((w15).alloc (EY s15 A15 n15 c15 x15)) (w15.heap.size) (.bool s15) (.slice A15 n15 c15) (.int .i64 x15) := by have h_ := Sy.new (w15) (.bool s15) (.slice A15 n15 c15) (.int .i64 x15); exact h_
  have F16 := F15.alloc F15.size (EY s15 A15 n15 c15 x15)
  have bx_u16 := bx_16.cell0
  have bx_v16 := bx_16.cell1
  have bx_w16 := bx_16.cell2
  have ba_u16 := ba_16.cell0
  have ba_v16 := ba_16.cell1
  have ba_w16 := ba_16.cell2
  have bb_u16 := bb_16.cell0
  have bb_v16 := bb_16.cell1
  have bb_w16 := bb_16.cell2
  have bc_u16 := bc_16.cell0
  have bc_v16 := bc_16.cell1
  have bc_w16 := bc_16.cell2
  have bd_u16 := bd_16.cell0
  have bd_v16 := bd_16.cell1
  have bd_w16 := bd_16.cell2
  have bf_u16 := bf_16.cell0
  have bf_v16 := bf_16.cell1
  have bf_w16 := bf_16.cell2
  go_wp2_with fail
  refine (yup_at _ _ _ _ _ _ _ (K + 1) _ p vg _ Hg.out (by have := HK.out; omega) h_16 hn hm HK1.out.2 T_16).mono ?_
  rintro e w17 ⟨s17, A17, n17, c17, x17, rfl, yg, b17⟩
  have h_17 := h_16.below b17
  have T_17 := T_16.below b17
  have ya_17 := ya_16.below b17
  have yb_17 := yb_16.below b17
  have yc_17 := yc_16.below b17
  have yd_17 := yd_16.below b17
  have yf_17 := yf_16.below b17
  have bx_17 := bx_16.below b17 bx_16.lt
  have ba_17 := ba_16.below b17 ba_16.lt
  have bb_17 := bb_16.below b17 bb_16.lt
  have bc_17 := bc_16.below b17 bc_16.lt
  have bd_17 := bd_16.below b17 bd_16.lt
  have bf_17 := bf_16.below b17 bf_16.lt
  have F17 := below_then F16 (Nat.le_refl _) b17
  have bx_u17 := bx_17.cell0
  have bx_v17 := bx_17.cell1
  have bx_w17 := bx_17.cell2
  have ba_u17 := ba_17.cell0
  have ba_v17 := ba_17.cell1
  have ba_w17 := ba_17.cell2
  have bb_u17 := bb_17.cell0
  have bb_v17 := bb_17.cell1
  have bb_w17 := bb_17.cell2
  have bc_u17 := bc_17.cell0
  have bc_v17 := bc_17.cell1
  have bc_w17 := bc_17.cell2
  have bd_u17 := bd_17.cell0
  have bd_v17 := bd_17.cell1
  have bd_w17 := bd_17.cell2
  have bf_u17 := bf_17.cell0
  have bf_v17 := bf_17.cell1
  have bf_w17 := bf_17.cell2
  have lt_bg_bx := bx_17.lt
  have lt_bg_ba := ba_17.lt
  have lt_bg_bb := bb_17.lt
  have lt_bg_bc := bc_17.lt
  have lt_bg_bd := bd_17.lt
  have lt_bg_bf := bf_17.lt
  have h_18 := h_17.alloc (EY s17 A17 n17 c17 x17)
  have T_18 := T_17.alloc (EY s17 A17 n17 c17 x17)
  have ya_18 := ya_17.alloc (EY s17 A17 n17 c17 x17)
  have yb_18 := yb_17.alloc (EY s17 A17 n17 c17 x17)
  have yc_18 := yc_17.alloc (EY s17 A17 n17 c17 x17)
  have yd_18 := yd_17.alloc (EY s17 A17 n17 c17 x17)
  have yf_18 := yf_17.alloc (EY s17 A17 n17 c17 x17)
  have yg_18 := yg.alloc (EY s17 A17 n17 c17 x17)
  have bx_18 := bx_17.alloc (EY s17 A17 n17 c17 x17)
  have ba_18 := ba_17.alloc (EY s17 A17 n17 c17 x17)
  have bb_18 := bb_17.alloc (EY s17 A17 n17 c17 x17)
  have bc_18 := bc_17.alloc (EY s17 A17 n17 c17 x17)
  have bd_18 := bd_17.alloc (EY s17 A17 n17 c17 x17)
  have bf_18 := bf_17.alloc (EY s17 A17 n17 c17 x17)
  have bg_18 : Sy ((w17).alloc (EY s17 A17 n17 c17 x17)) (w17.heap.size) (.bool s17) (.slice A17 n17 c17) (.int .i64 x17) := by have h_ := Sy.new (w17) (.bool s17) (.slice A17 n17 c17) (.int .i64 x17); exact h_
  have F18 := F17.alloc F17.size (EY s17 A17 n17 c17 x17)
  have bx_u18 := bx_18.cell0
  have bx_v18 := bx_18.cell1
  have bx_w18 := bx_18.cell2
  have ba_u18 := ba_18.cell0
  have ba_v18 := ba_18.cell1
  have ba_w18 := ba_18.cell2
  have bb_u18 := bb_18.cell0
  have bb_v18 := bb_18.cell1
  have bb_w18 := bb_18.cell2
  have bc_u18 := bc_18.cell0
  have bc_v18 := bc_18.cell1
  have bc_w18 := bc_18.cell2
  have bd_u18 := bd_18.cell0
  have bd_v18 := bd_18.cell1
  have bd_w18 := bd_18.cell2
  have bf_u18 := bf_18.cell0
  have bf_v18 := bf_18.cell1
  have bf_w18 := bf_18.cell2
  have bg_u18 := bg_18.cell0
  have bg_v18 := bg_18.cell1
  have bg_w18 := bg_18.cell2
  go_wp2_with fail
  refine (rycmp _ _ _ _ _ _ _ _ _ _ va vb r1 _ R1.out ya_18 yb_18 Qa.out Qb.out).mono ?_
  rintro e w19 ⟨rfl, b19⟩
  have ya_19 := ya_18.below b19
  have yb_19 := yb_18.below b19
  have yc_19 := yc_18.below b19
  have yd_19 := yd_18.below b19
  have yf_19 := yf_18.below b19
  have yg_19 := yg_18.below b19
  have ba_19 := ba_18.below b19 ba_18.lt
  have bb_19 := bb_18.below b19 bb_18.lt
  have bc_19 := bc_18.below b19 bc_18.lt
  have bd_19 := bd_18.below b19 bd_18.lt
  have bf_19 := bf_18.below b19 bf_18.lt
  have bg_19 := bg_18.below b19 bg_18.lt
  have F19 := below_then F18 (Nat.le_refl _) b19
  have ba_u19 := ba_19.cell0
  have ba_v19 := ba_19.cell1
  have ba_w19 := ba_19.cell2
  have bb_u19 := bb_19.cell0
  have bb_v19 := bb_19.cell1
  have bb_w19 := bb_19.cell2
  have bc_u19 := bc_19.cell0
  have bc_v19 := bc_19.cell1
  have bc_w19 := bc_19.cell2
  have bd_u19 := bd_19.cell0
  have bd_v19 := bd_19.cell1
  have bd_w19 := bd_19.cell2
  have bf_u19 := bf_19.cell0
  have bf_v19 := bf_19.cell1
  have bf_w19 := bf_19.cell2
  have bg_u19 := bg_19.cell0
  have bg_v19 := bg_19.cell1
  have bg_w19 := bg_19.cell2
  go_wp2_with fail
  refine (rycmp _ _ _ _ _ _ _ _ _ _ vc vd r2 _ R2.out yc_19 yd_19 Qc.out Qd.out).mono ?_
  rintro e w20 ⟨rfl, b20⟩
  have ya_20 := ya_19.below b20
  have yb_20 := yb_19.below b20
  have yc_20 := yc_19.below b20
  have yd_20 := yd_19.below b20
  have yf_20 := yf_19.below b20
  have yg_20 := yg_19.below b20
  have ba_20 := ba_19.below b20 ba_19.lt
  have bb_20 := bb_19.below b20 bb_19.lt
  have bc_20 := bc_19.below b20 bc_19.lt
  have bd_20 := bd_19.below b20 bd_19.lt
  have bf_20 := bf_19.below b20 bf_19.lt
  have bg_20 := bg_19.below b20 bg_19.lt
  have F20 := below_then F19 (Nat.le_refl _) b20
  have ba_u20 := ba_20.cell0
  have ba_v20 := ba_20.cell1
  have ba_w20 := ba_20.cell2
  have bb_u20 := bb_20.cell0
  have bb_v20 := bb_20.cell1
  have bb_w20 := bb_20.cell2
  have bc_u20 := bc_20.cell0
  have bc_v20 := bc_20.cell1
  have bc_w20 := bc_20.cell2
  have bd_u20 := bd_20.cell0
  have bd_v20 := bd_20.cell1
  have bd_w20 := bd_20.cell2
  have bf_u20 := bf_20.cell0
  have bf_v20 := bf_20.cell1
  have bf_w20 := bf_20.cell2
  have bg_u20 := bg_20.cell0
  have bg_v20 := bg_20.cell1
  have bg_w20 := bg_20.cell2
  go_wp2_with fail
  refine (rycmp _ _ _ _ _ _ _ _ _ _ va vf r3 _ R3.out ya_20 yf_20 Qa.out Qf.out).mono ?_
  rintro e w21 ⟨rfl, b21⟩
  have ya_21 := ya_20.below b21
  have yb_21 := yb_20.below b21
  have yc_21 := yc_20.below b21
  have yd_21 := yd_20.below b21
  have yf_21 := yf_20.below b21
  have yg_21 := yg_20.below b21
  have ba_21 := ba_20.below b21 ba_20.lt
  have bb_21 := bb_20.below b21 bb_20.lt
  have bc_21 := bc_20.below b21 bc_20.lt
  have bd_21 := bd_20.below b21 bd_20.lt
  have bf_21 := bf_20.below b21 bf_20.lt
  have bg_21 := bg_20.below b21 bg_20.lt
  have F21 := below_then F20 (Nat.le_refl _) b21
  have ba_u21 := ba_21.cell0
  have ba_v21 := ba_21.cell1
  have ba_w21 := ba_21.cell2
  have bb_u21 := bb_21.cell0
  have bb_v21 := bb_21.cell1
  have bb_w21 := bb_21.cell2
  have bc_u21 := bc_21.cell0
  have bc_v21 := bc_21.cell1
  have bc_w21 := bc_21.cell2
  have bd_u21 := bd_21.cell0
  have bd_v21 := bd_21.cell1
  have bd_w21 := bd_21.cell2
  have bf_u21 := bf_21.cell0
  have bf_v21 := bf_21.cell1
  have bf_w21 := bf_21.cell2
  have bg_u21 := bg_21.cell0
  have bg_v21 := bg_21.cell1
  have bg_w21 := bg_21.cell2
  go_wp2_with fail
  refine (rycmp _ _ _ _ _ _ _ _ _ _ vg vc r4 _ R4.out yg_21 yc_21 Qg.out Qc.out).mono ?_
  rintro e w22 ⟨rfl, b22⟩
  have ya_22 := ya_21.below b22
  have yb_22 := yb_21.below b22
  have yc_22 := yc_21.below b22
  have yd_22 := yd_21.below b22
  have yf_22 := yf_21.below b22
  have yg_22 := yg_21.below b22
  have ba_22 := ba_21.below b22 ba_21.lt
  have bb_22 := bb_21.below b22 bb_21.lt
  have bc_22 := bc_21.below b22 bc_21.lt
  have bd_22 := bd_21.below b22 bd_21.lt
  have bf_22 := bf_21.below b22 bf_21.lt
  have bg_22 := bg_21.below b22 bg_21.lt
  have F22 := below_then F21 (Nat.le_refl _) b22
  have ba_u22 := ba_22.cell0
  have ba_v22 := ba_22.cell1
  have ba_w22 := ba_22.cell2
  have bb_u22 := bb_22.cell0
  have bb_v22 := bb_22.cell1
  have bb_w22 := bb_22.cell2
  have bc_u22 := bc_22.cell0
  have bc_v22 := bc_22.cell1
  have bc_w22 := bc_22.cell2
  have bd_u22 := bd_22.cell0
  have bd_v22 := bd_22.cell1
  have bd_w22 := bd_22.cell2
  have bf_u22 := bf_22.cell0
  have bf_v22 := bf_22.cell1
  have bf_w22 := bf_22.cell2
  have bg_u22 := bg_22.cell0
  have bg_v22 := bg_22.cell1
  have bg_w22 := bg_22.cell2
  go_wp2
  go_ret
  exact ⟨rfl, F22⟩
set_option maxHeartbeats 4000000 in
theorem dm_sw (s : Bool) (A : Option Addr) (n c : Nat) (B : Option Addr) (m d : Nat) (t : Bool) (A' : Option Addr) (n' c' : Nat) (B' : Option Addr) (m' d' : Nat) (o : Int) (p q : Rat) (w : World) (ho : 0 ≤ o ∧ o < 256) (h : Iq w s A n c B m d p) (k : Iq w t A' n' c' B' m' d' q) (hn : n ≤ 3) (hm : m ≤ 3) (hn' : n' ≤ 3) (hm' : m' ≤ 3) (hpq : ¬ p ≤ q) (T : Tb w) : Calls Tryd.prog 7 #[.agg #[.bool s, .slice A n c, .slice B m d], .agg #[.bool t, .slice A' n' c', .slice B' m' d'], .int .u8 o] w (fun e w' => e = .returned (.bool true) ∧ Below w.heap.size w w') := by
  have ho1 : 0 ≤ o := ho.1
  have ho2 : o < 256 := ho.2
  obtain ⟨K, hK⟩ : ∃ K : Nat, o % 60 + 1 = (K : Int) := ⟨(o % 60 + 1).toNat, by omega⟩
  have hK1 : 1 ≤ K ∧ K ≤ 60 := by omega
  have w1 : IntKind.u8.wrap (o.tmod 60) = o % 60 := by rw [Int.tmod_eq_emod_of_nonneg ho.1]; (first | go_num | (simp [IntKind.wrap, IntKind.bits, IntKind.signed]; omega))
  have w2 : IntKind.i64.wrap (o % 60) = o % 60 := by (first | go_num | (simp [IntKind.wrap, IntKind.bits, IntKind.signed]; omega))
  have w3 : IntKind.i64.wrap (o % 60 + 1) = o % 60 + 1 := by (first | go_num | (simp [IntKind.wrap, IntKind.bits, IntKind.signed]; omega))
  have w4 : IntKind.i64.wrap ((K : Int) + 1) = ((K + 1 : Nat) : Int) := by (first | go_num | (simp [IntKind.wrap, IntKind.bits, IntKind.signed]; omega))
  have hsp : Qs 3 p := h.size hn hm (by omega)
  have hsq : Qs 3 q := k.size hn' hm' (by omega)
  have hlo : Qs 3 q := hsq
  have hhi : Qs 3 p := hsp
  have hle : q ≤ p := by exact Rat.le_of_lt (Rat.not_le.1 hpq)
  obtain ⟨r, hr⟩ : ∃ r, sz (p - q).num = r := ⟨_, rfl⟩
  have hr0 : decide (0 < r) = true := by
    rw [← hr]
    exact gt_sz hpq
  have HR := hide hr
  have zz : 3 ≤ 4000 := by decide
  have n4 : n ≤ 4000 := Nat.le_trans hn zz
  have m4 : m ≤ 4000 := Nat.le_trans hm zz
  have n4' : n' ≤ 4000 := Nat.le_trans hn' zz
  have m4' : m' ≤ 4000 := Nat.le_trans hm' zz
  have HK := hide hK
  have HK1 := hide (show (1 ≤ K ∧ K ≤ 200) ∧ (1 ≤ K + 1 ∧ K + 1 ≤ 200) by omega)
  have Ta := tq_qs false hlo (show 1 ≤ K by omega) (show K ≤ 101 by omega)
  have Tb := tq_qs false hhi (show 1 ≤ K by omega) (show K ≤ 101 by omega)
  have Tc := tq_qs true hlo (show 1 ≤ K by omega) (show K ≤ 101 by omega)
  have Td := tq_qs true hhi (show 1 ≤ K by omega) (show K ≤ 101 by omega)
  have Tf := tq_qs false hlo (show 1 ≤ (K + 1) by omega) (show (K + 1) ≤ 101 by omega)
  have Tg := tq_qs true hlo (show 1 ≤ (K + 1) by omega) (show (K + 1) ≤ 101 by omega)
  have C1 : decide (sz (tq q K false - tq p K false).num ≤ 0) = true := le_sz ((tq_dn q hK1.1).mono (tq_dn p hK1.1) hle)
  have C2 : decide (sz (tq q K true - tq p K true).num ≤ 0) = true := le_sz ((tq_up q hK1.1).mono (tq_up p hK1.1) hle)
  have C3 : decide (sz (tq q K false - tq q (K + 1) false).num ≤ 0) = true := le_sz ((tq_dn q hK1.1).more (tq_dn q (by omega)) (by omega))
  have C4 : decide (sz (tq q (K + 1) true - tq q K true).num ≤ 0) = true := le_sz ((tq_up q hK1.1).more (tq_up q (by omega)) (by omega))
  obtain ⟨va, ha⟩ : ∃ v, tq q K false = v := ⟨_, rfl⟩
  obtain ⟨vb, hb⟩ : ∃ v, tq p K false = v := ⟨_, rfl⟩
  obtain ⟨vc, hc⟩ : ∃ v, tq q K true = v := ⟨_, rfl⟩
  obtain ⟨vd, hd⟩ : ∃ v, tq p K true = v := ⟨_, rfl⟩
  obtain ⟨vf, hf⟩ : ∃ v, tq q (K + 1) false = v := ⟨_, rfl⟩
  obtain ⟨vg, hg⟩ : ∃ v, tq q (K + 1) true = v := ⟨_, rfl⟩
  rw [ha] at Ta C1 C3
  rw [hb] at Tb C1
  rw [hc] at Tc C2 C4
  rw [hd] at Td C2
  rw [hf] at Tf C3
  rw [hg] at Tg C4
  obtain ⟨r1, hr1⟩ : ∃ r, sz (va - vb).num = r := ⟨_, rfl⟩
  obtain ⟨r2, hr2⟩ : ∃ r, sz (vc - vd).num = r := ⟨_, rfl⟩
  obtain ⟨r3, hr3⟩ : ∃ r, sz (va - vf).num = r := ⟨_, rfl⟩
  obtain ⟨r4, hr4⟩ : ∃ r, sz (vg - vc).num = r := ⟨_, rfl⟩
  rw [hr1] at C1
  rw [hr2] at C2
  rw [hr3] at C3
  rw [hr4] at C4
  have R1 := hide hr1
  have R2 := hide hr2
  have R3 := hide hr3
  have R4 := hide hr4
  have Ha := hide ha
  have Qa := hide Ta.1
  have Hb := hide hb
  have Qb := hide Tb.1
  have Hc := hide hc
  have Qc := hide Tc.1
  have Hd := hide hd
  have Qd := hide Td.1
  have Hf := hide hf
  have Qf := hide Tf.1
  have Hg := hide hg
  have Qg := hide Tg.1
  clear hr hr1 hr2 hr3 hr4 ha hb hc hd hf hg Ta Tb Tc Td Tf Tg hsp hsq hlo hhi hle hpq hK hK1 ho
  have h_1 := h.alloc (EQ s A n c B m d)
  have k_1 := k.alloc (EQ s A n c B m d)
  have T_1 := T.alloc (EQ s A n c B m d)
  have bx_1 : Sq ((w).alloc (EQ s A n c B m d)) (w.heap.size) (.bool s) (.slice A n c) (.slice B m d) := by have h_ := Sq.new (w) (.bool s) (.slice A n c) (.slice B m d); exact h_
  have F1 := (Below.refl w.heap.size w).alloc (Nat.le_refl _) (EQ s A n c B m d)
  have h_2 := h_1.alloc (EQ t A' n' c' B' m' d')
  have k_2 := k_1.alloc (EQ t A' n' c' B' m' d')
  have T_2 := T_1.alloc (EQ t A' n' c' B' m' d')
  have bx_2 := bx_1.alloc (EQ t A' n' c' B' m' d')
  have by_2 : Sq (((w).alloc (EQ s A n c B m d)).alloc (EQ t A' n' c' B' m' d')) (w.heap.size + 1) (.bool t) (.slice A' n' c') (.slice B' m' d') := by have h_ := Sq.new ((w).alloc (EQ s A n c B m d)) (.bool t) (.slice A' n' c') (.slice B' m' d'); simp only [World.size_alloc] at h_; exact h_
  have F2 := F1.alloc F1.size (EQ t A' n' c' B' m' d')
  go_enter Tryd.func7, Tryd.ntmps7
  go_wp2_with fail
  refine (awake5 _ T_2).mono ?_
  rintro e w3 ⟨rfl, b3⟩
  have h_3 := h_2.below b3
  have k_3 := k_2.below b3
  have T_3 := T_2.below b3
  have bx_3 := bx_2.below b3 bx_2.lt
  have by_3 := by_2.below b3 by_2.lt
  have F3 := below_then F2 (Nat.le_refl _) b3
  have bx_u3 := bx_3.cell0
  have bx_v3 := bx_3.cell1
  have bx_w3 := bx_3.cell2
  have by_u3 := by_3.cell0
  have by_v3 := by_3.cell1
  have by_w3 := by_3.cell2
  go_wp2_with fail
  refine (few_yes _ _ _ _ _ _ _ _ hn hm).mono ?_
  rintro e w4 ⟨rfl, b4⟩
  have h_4 := h_3.below b4
  have k_4 := k_3.below b4
  have T_4 := T_3.below b4
  have bx_4 := bx_3.below b4 bx_3.lt
  have by_4 := by_3.below b4 by_3.lt
  have F4 := below_then F3 (Nat.le_refl _) b4
  have bx_u4 := bx_4.cell0
  have bx_v4 := bx_4.cell1
  have bx_w4 := bx_4.cell2
  have by_u4 := by_4.cell0
  have by_v4 := by_4.cell1
  have by_w4 := by_4.cell2
  go_wp2_with fail
  refine (few_yes _ _ _ _ _ _ _ _ hn' hm').mono ?_
  rintro e w5 ⟨rfl, b5⟩
  have h_5 := h_4.below b5
  have k_5 := k_4.below b5
  have T_5 := T_4.below b5
  have bx_5 := bx_4.below b5 bx_4.lt
  have by_5 := by_4.below b5 by_4.lt
  have F5 := below_then F4 (Nat.le_refl _) b5
  have bx_u5 := bx_5.cell0
  have bx_v5 := bx_5.cell1
  have bx_w5 := bx_5.cell2
  have by_u5 := by_5.cell0
  have by_v5 := by_5.cell1
  have by_w5 := by_5.cell2
  go_wp2_with fail
  refine (rcmp_q _ _ _ _ _ _ _ _ _ _ _ _ _ _ p q r _ HR.out h_5 k_5 n4 m4 n4' m4').mono ?_
  rintro e w6 ⟨rfl, b6⟩
  have h_6 := h_5.below b6
  have k_6 := k_5.below b6
  have T_6 := T_5.below b6
  have bx_6 := bx_5.below b6 bx_5.lt
  have by_6 := by_5.below b6 by_5.lt
  have F6 := below_then F5 (Nat.le_refl _) b6
  have bx_u6 := bx_6.cell0
  have bx_v6 := bx_6.cell1
  have bx_w6 := bx_6.cell2
  have by_u6 := by_6.cell0
  have by_v6 := by_6.cell1
  have by_w6 := by_6.cell2
  have bx_f06 := bx_6.frozen 0
  have bx_f16 := bx_6.frozen 1
  have bx_f26 := bx_6.frozen 2
  have h_7 := h_6.storQ bx_6 (.bool t) (.slice A' n' c') (.slice B' m' d')
  have k_7 := k_6.storQ bx_6 (.bool t) (.slice A' n' c') (.slice B' m' d')
  have T_7 := T_6.storQ bx_6 (.bool t) (.slice A' n' c') (.slice B' m' d')
  have by_7 := by_6.past (g' := w.heap.size) (u0 := .bool t) (u1 := .slice A' n' c') (u2 := .slice B' m' d') (by omega)
  have bx_7 := bx_6.stor (u0 := .bool t) (u1 := .slice A' n' c') (u2 := .slice B' m' d')
  have F7 := below_storQ (u0 := .bool t) (u1 := .slice A' n' c') (u2 := .slice B' m' d') F6 (show w.heap.size ≤ w.heap.size by omega)
  have bx_u7 := bx_7.cell0
  have bx_v7 := bx_7.cell1
  have bx_w7 := bx_7.cell2
  have by_u7 := by_7.cell0
  have by_v7 := by_7.cell1
  have by_w7 := by_7.cell2
  have by_f07 := by_7.frozen 0
  have by_f17 := by_7.frozen 1
  have by_f27 := by_7.frozen 2
  have h_8 := h_7.storQ by_7 (.bool s) (.slice A n c) (.slice B m d)
  have k_8 := k_7.storQ by_7 (.bool s) (.slice A n c) (.slice B m d)
  have T_8 := T_7.storQ by_7 (.bool s) (.slice A n c) (.slice B m d)
  have bx_8 := bx_7.past (g' := w.heap.size + 1) (u0 := .bool s) (u1 := .slice A n c) (u2 := .slice B m d) (by omega)
  have by_8 := by_7.stor (u0 := .bool s) (u1 := .slice A n c) (u2 := .slice B m d)
  have F8 := below_storQ (u0 := .bool s) (u1 := .slice A n c) (u2 := .slice B m d) F7 (show w.heap.size ≤ w.heap.size + 1 by omega)
  have bx_u8 := bx_8.cell0
  have bx_v8 := bx_8.cell1
  have bx_w8 := bx_8.cell2
  have by_u8 := by_8.cell0
  have by_v8 := by_8.cell1
  have by_w8 := by_8.cell2
  go_wp2_with fail
  refine (ydown_at _ _ _ _ _ _ _ K _ q va _ Ha.out HK.out k_8 hn' hm' HK1.out.1 T_8).mono ?_
  rintro e w9 ⟨s9, A9, n9, c9, x9, rfl, ya, b9⟩
  have h_9 := h_8.below b9
  have k_9 := k_8.below b9
  have T_9 := T_8.below b9
  have bx_9 := bx_8.below b9 bx_8.lt
  have by_9 := by_8.below b9 by_8.lt
  have F9 := below_then F8 (Nat.le_refl _) b9
  have bx_u9 := bx_9.cell0
  have bx_v9 := bx_9.cell1
  have bx_w9 := bx_9.cell2
  have by_u9 := by_9.cell0
  have by_v9 := by_9.cell1
  have by_w9 := by_9.cell2
  have lt_ba_bx := bx_9.lt
  have lt_ba_by := by_9.lt
  have h_10 := h_9.alloc (EY s9 A9 n9 c9 x9)
  have k_10 := k_9.alloc (EY s9 A9 n9 c9 x9)
  have T_10 := T_9.alloc (EY s9 A9 n9 c9 x9)
  have ya_10 := ya.alloc (EY s9 A9 n9 c9 x9)
  have bx_10 := bx_9.alloc (EY s9 A9 n9 c9 x9)
  have by_10 := by_9.alloc (EY s9 A9 n9 c9 x9)
  have ba_10 : Sy ((w9).alloc (EY s9 A9 n9 c9 x9)) (w9.heap.size) (.bool s9) (.slice A9 n9 c9) (.int .i64 x9) := by have h_ := Sy.new (w9) (.bool s9) (.slice A9 n9 c9) (.int .i64 x9); exact h_
  have F10 := F9.alloc F9.size (EY s9 A9 n9 c9 x9)
  have bx_u10 := bx_10.cell0
  have bx_v10 := bx_10.cell1
  have bx_w10 := bx_10.cell2
  have by_u10 := by_10.cell0
  have by_v10 := by_10.cell1
  have by_w10 := by_10.cell2
  have ba_u10 := ba_10.cell0
  have ba_v10 := ba_10.cell1
  have ba_w10 := ba_10.cell2
  go_wp2_with fail
  refine (ydown_at _ _ _ _ _ _ _ K _ p vb _ Hb.out HK.out h_10 hn hm HK1.out.1 T_10).mono ?_
  rintro e w11 ⟨s11, A11, n11, c11, x11, rfl, yb, b11⟩
  have h_11 := h_10.below b11
  have k_11 := k_10.below b11
  have T_11 := T_10.below b11
  have ya_11 := ya_10.below b11
  have bx_11 := bx_10.below b11 bx_10.lt
  have by_11 := by_10.below b11 by_10.lt
  have ba_11 := ba_10.below b11 ba_10.lt
  have F11 := below_then F10 (Nat.le_refl _) b11
  have bx_u11 := bx_11.cell0
  have bx_v11 := bx_11.cell1
  have bx_w11 := bx_11.cell2
  have by_u11 := by_11.cell0
  have by_v11 := by_11.cell1
  have by_w11 := by_11.cell2
  have ba_u11 := ba_11.cell0
  have ba_v11 := ba_11.cell1
  have ba_w11 := ba_11.cell2
  have lt_bb_bx := bx_11.lt
  have lt_bb_by := by_11.lt
  have lt_bb_ba := ba_11.lt
  have h_12 := h_11.alloc (EY s11 A11 n11 c11 x11)
  have k_12 := k_11.alloc (EY s11 A11 n11 c11 x11)
  have T_12 := T_11.alloc (EY s11 A11 n11 c11 x11)
  have ya_12 := ya_11.alloc (EY s11 A11 n11 c11 x11)
  have yb_12 := yb.alloc (EY s11 A11 n11 c11 x11)
  have bx_12 := bx_11.alloc (EY s11 A11 n11 c11 x11)
  have by_12 := by_11.alloc (EY s11 A11 n11 c11 x11)
  have ba_12 := ba_11.alloc (EY s11 A11 n11 c11 x11)
  have bb_12 : Sy ((w11).alloc (EY s11 A11 n11 c11 x11)) (w11.heap.size) (.bool s11) (.slice A11 n11 c11) (.int .i64 x11) := by have h_ := Sy.new (w11) (.bool s11) (.slice A11 n11 c11) (.int .i64 x11); exact h_
  have F12 := F11.alloc F11.size (EY s11 A11 n11 c11 x11)
  have bx_u12 := bx_12.cell0
  have bx_v12 := bx_12.cell1
  have bx_w12 := bx_12.cell2
  have by_u12 := by_12.cell0
  have by_v12 := by_12.cell1
  have by_w12 := by_12.cell2
  have ba_u12 := ba_12.cell0
  have ba_v12 := ba_12.cell1
  have ba_w12 := ba_12.cell2
  have bb_u12 := bb_12.cell0
  have bb_v12 := bb_12.cell1
  have bb_w12 := bb_12.cell2
  go_wp2_with fail
  refine (yup_at _ _ _ _ _ _ _ K _ q vc _ Hc.out HK.out k_12 hn' hm' HK1.out.1 T_12).mono ?_
  rintro e w13 ⟨s13, A13, n13, c13, x13, rfl, yc, b13⟩
  have h_13 := h_12.below b13
  have k_13 := k_12.below b13
  have T_13 := T_12.below b13
  have ya_13 := ya_12.below b13
  have yb_13 := yb_12.below b13
  have bx_13 := bx_12.below b13 bx_12.lt
  have by_13 := by_12.below b13 by_12.lt
  have ba_13 := ba_12.below b13 ba_12.lt
  have bb_13 := bb_12.below b13 bb_12.lt
  have F13 := below_then F12 (Nat.le_refl _) b13
  have bx_u13 := bx_13.cell0
  have bx_v13 := bx_13.cell1
  have bx_w13 := bx_13.cell2
  have by_u13 := by_13.cell0
  have by_v13 := by_13.cell1
  have by_w13 := by_13.cell2
  have ba_u13 := ba_13.cell0
  have ba_v13 := ba_13.cell1
  have ba_w13 := ba_13.cell2
  have bb_u13 := bb_13.cell0
  have bb_v13 := bb_13.cell1
  have bb_w13 := bb_13.cell2
  have lt_bc_bx := bx_13.lt
  have lt_bc_by := by_13.lt
  have lt_bc_ba := ba_13.lt
  have lt_bc_bb := bb_13.lt
  have h_14 := h_13.alloc (EY s13 A13 n13 c13 x13)
  have k_14 := k_13.alloc (EY s13 A13 n13 c13 x13)
  have T_14 := T_13.alloc (EY s13 A13 n13 c13 x13)
  have ya_14 := ya_13.alloc (EY s13 A13 n13 c13 x13)
  have yb_14 := yb_13.alloc (EY s13 A13 n13 c13 x13)
  have yc_14 := yc.alloc (EY s13 A13 n13 c13 x13)
  have bx_14 := bx_13.alloc (EY s13 A13 n13 c13 x13)
  have by_14 := by_13.alloc (EY s13 A13 n13 c13 x13)
  have ba_14 := ba_13.alloc (EY s13 A13 n13 c13 x13)
  have bb_14 := bb_13.alloc (EY s13 A13 n13 c13 x13)
  have bc_14 : Sy ((w13).alloc (EY s13 A13 n13 c13 x13)) (w13.heap.size) (.bool s13) (.slice A13 n13 c13) (.int .i64 x13) := by have h_ := Sy.new (w13) (.bool s13) (.slice A13 n13 c13) (.int .i64 x13); exact h_
  have F14 := F13.alloc F13.size (EY s13 A13 n13 c13 x13)
  have bx_u14 := bx_14.cell0
  have bx_v14 := bx_14.cell1
  have bx_w14 := bx_14.cell2
  have by_u14 := by_14.cell0
  have by_v14 := by_14.cell1
  have by_w14 := by_14.cell2
  have ba_u14 := ba_14.cell0
  have ba_v14 := ba_14.cell1
  have ba_w14 := ba_14.cell2
  have bb_u14 := bb_14.cell0
  have bb_v14 := bb_14.cell1
  have bb_w14 := bb_14.cell2
  have bc_u14 := bc_14.cell0
  have bc_v14 := bc_14.cell1
  have bc_w14 := bc_14.cell2
  go_wp2_with fail
  refine (yup_at _ _ _ _ _ _ _ K _ p vd _ Hd.out HK.out h_14 hn hm HK1.out.1 T_14).mono ?_
  rintro e w15 ⟨s15, A15, n15, c15, x15, rfl, yd, b15⟩
  have h_15 := h_14.below b15
  have k_15 := k_14.below b15
  have T_15 := T_14.below b15
  have ya_15 := ya_14.below b15
  have yb_15 := yb_14.below b15
  have yc_15 := yc_14.below b15
  have bx_15 := bx_14.below b15 bx_14.lt
  have by_15 := by_14.below b15 by_14.lt
  have ba_15 := ba_14.below b15 ba_14.lt
  have bb_15 := bb_14.below b15 bb_14.lt
  have bc_15 := bc_14.below b15 bc_14.lt
  have F15 := below_then F14 (Nat.le_refl _) b15
  have bx_u15 := bx_15.cell0
  have bx_v15 := bx_15.cell1
  have bx_w15 := bx_15.cell2
  have by_u15 := by_15.cell0
  have by_v15 := by_15.cell1
  have by_w15 := by_15.cell2
  have ba_u15 := ba_15.cell0
  have ba_v15 := ba_15.cell1
  have ba_w15 := ba_15.cell2
  have bb_u15 := bb_15.cell0
  have bb_v15 := bb_15.cell1
  have bb_w15 := bb_15.cell2
  have bc_u15 := bc_15.cell0
  have bc_v15 := bc_15.cell1
  have bc_w15 := bc_15.cell2
  have lt_bd_bx := bx_15.lt
  have lt_bd_by := by_15.lt
  have lt_bd_ba := ba_15.lt
  have lt_bd_bb := bb_15.lt
  have lt_bd_bc := bc_15.lt
  have h_16 := h_15.alloc (EY s15 A15 n15 c15 x15)
  have k_16 := k_15.alloc (EY s15 A15 n15 c15 x15)
  have T_16 := T_15.alloc (EY s15 A15 n15 c15 x15)
  have ya_16 := ya_15.alloc (EY s15 A15 n15 c15 x15)
  have yb_16 := yb_15.alloc (EY s15 A15 n15 c15 x15)
  have yc_16 := yc_15.alloc (EY s15 A15 n15 c15 x15)
  have yd_16 := yd.alloc (EY s15 A15 n15 c15 x15)
  have bx_16 := bx_15.alloc (EY s15 A15 n15 c15 x15)
  have by_16 := by_15.alloc (EY s15 A15 n15 c15 x15)
  have ba_16 := ba_15.alloc (EY s15 A15 n15 c15 x15)
  have bb_16 := bb_15.alloc (EY s15 A15 n15 c15 x15)
  have bc_16 := bc_15.alloc (EY s15 A15 n15 c15 x15)
  have bd_16 : Sy ((w15).alloc (EY s15 A15 n15 c15 x15)) (w15.heap.size) (.bool s15) (.slice A15 n15 c15) (.int .i64 x15) := by have h_ := Sy.new (w15) (.bool s15) (.slice A15 n15 c15) (.int .i64 x15); exact h_
  have F16 := F15.alloc F15.size (EY s15 A15 n15 c15 x15)
  have bx_u16 := bx_16.cell0
  have bx_v16 := bx_16.cell1
  have bx_w16 := bx_16.cell2
  have by_u16 := by_16.cell0
  have by_v16 := by_16.cell1
  have by_w16 := by_16.cell2
  have ba_u16 := ba_16.cell0
  have ba_v16 := ba_16.cell1
  have ba_w16 := ba_16.cell2
  have bb_u16 := bb_16.cell0
  have bb_v16 := bb_16.cell1
  have bb_w16 := bb_16.cell2
  have bc_u16 := bc_16.cell0
  have bc_v16 := bc_16.cell1
  have bc_w16 := bc_16.cell2
  have bd_u16 := bd_16.cell0
  have bd_v16 := bd_16.cell1
  have bd_w16 := bd_16.cell2
  go_wp2_with fail
  refine (ydown_at _ _ _ _ _ _ _ (K + 1) _ q vf _ Hf.out (by have := HK.out; omega) k_16 hn' hm' HK1.out.2 T_16).mono ?_
  rintro e w17 ⟨s17, A17, n17, c17, x17, rfl, yf, b17⟩
  have k_17 := k_16.below b17
  have T_17 := T_16.below b17
  have ya_17 := ya_16.below b17
  have yb_17 := yb_16.below b17
  have yc_17 := yc_16.below b17
  have yd_17 := yd_16.below b17
  have bx_17 := bx_16.below b17 bx_16.lt
  have ba_17 := ba_16.below b17 ba_16.lt
  have bb_17 := bb_16.below b17 bb_16.lt
  have bc_17 := bc_16.below b17 bc_16.lt
  have bd_17 := bd_16.below b17 bd_16.lt
  have F17 := below_then F16 (Nat.le_refl _) b17
  have bx_u17 := bx_17.cell0
  have bx_v17 := bx_17.cell1
  have bx_w17 := bx_17.cell2
  have ba_u17 := ba_17.cell0
  have ba_v17 := ba_17.cell1
  have ba_w17 := ba_17.cell2
  have bb_u17 := bb_17.cell0
  have bb_v17 := bb_17.cell1
  have bb_w17 := bb_17.cell2
  have bc_u17 := bc_17.cell0
  have bc_v17 := bc_17.cell1
  have bc_w17 := bc_17.cell2
  have bd_u17 := bd_17.cell0
  have bd_v17 := bd_17.cell1
  have bd_w17 := bd_17.cell2
  have lt_bf_bx := bx_17.lt
  have lt_bf_ba := ba_17.lt
  have lt_bf_bb := bb_17.lt
  have lt_bf_bc := bc_17.lt
  have lt_bf_bd := bd_17.lt
  have k_18 := k_17.alloc (EY s17 A17 n17 c17 x17)
  have T_18 := T_17.alloc (EY s17 A17 n17 c17 x17)
  have ya_18 := ya_17.alloc (EY s17 A17 n17 c17 x17)
  have yb_18 := yb_17.alloc (EY s17 A17 n17 c17 x17)
  have yc_18 := yc_17.alloc (EY s17 A17 n17 c17 x17)
  have yd_18 := yd_17.alloc (EY s17 A17 n17 c17 x17)
  have yf_18 := yf.alloc (EY s17 A17 n17 c17 x17)
  have bx_18 := bx_17.alloc (EY s17 A17 n17 c17 x17)
  have ba_18 := ba_17.alloc (EY s17 A17 n17 c17 x17)
  have bb_18 := bb_17.alloc (EY s17 A17 n17 c17 x17)
  have bc_18 := bc_17.alloc (EY s17 A17 n17 c17 x17)
  have bd_18 := bd_17.alloc (EY s17 A17 n17 c17 x17)
  have bf_18 : Sy ((w17).alloc (EY s17 A17 n17 c17 x17)) (w17.heap.size) (.bool s17) (.slice A17 n17 c17) (.int .i64 x17) := by have h_ := Sy.new (w17) (.bool s17) (.slice A17 n17 c17) (.int .i64 x17); exact h_
  have F18 := F17.alloc F17.size (EY s17 A17 n17 c17 x17)
  have bx_u18 := bx_18.cell0
  have bx_v18 := bx_18.cell1
  have bx_w18 := bx_18.cell2
  have ba_u18 := ba_18.cell0
  have ba_v18 := ba_18.cell1
  have ba_w18 := ba_18.cell2
  have bb_u18 := bb_18.cell0
  have bb_v18 := bb_18.cell1
  have bb_w18 := bb_18.cell2
  have bc_u18 := bc_18.cell0
  have bc_v18 := bc_18.cell1
  have bc_w18 := bc_18.cell2
  have bd_u18 := bd_18.cell0
  have bd_v18 := bd_18.cell1
  have bd_w18 := bd_18.cell2
  have bf_u18 := bf_18.cell0
  have bf_v18 := bf_18.cell1
  have bf_w18 := bf_18.cell2
  go_wp2_with fail
  refine (yup_at _ _ _ _ _ _ _ (K + 1) _ q vg _ Hg.out (by have := HK.out; omega) k_18 hn' hm' HK1.out.2 T_18).mono ?_
  rintro e w19 ⟨s19, A19, n19, c19, x19, rfl, yg, b19⟩
  have k_19 := k_18.below b19
  have T_19 := T_18.below b19
  have ya_19 := ya_18.below b19
  have yb_19 := yb_18.below b19
  have yc_19 := yc_18.below b19
  have yd_19 := yd_18.below b19
  have yf_19 := yf_18.below b19
  have bx_19 := bx_18.below b19 bx_18.lt
  have ba_19 := ba_18.below b19 ba_18.lt
  have bb_19 := bb_18.below b19 bb_18.lt
  have bc_19 := bc_18.below b19 bc_18.lt
  have bd_19 := bd_18.below b19 bd_18.lt
  have bf_19 := bf_18.below b19 bf_18.lt
  have F19 := below_then F18 (Nat.le_refl _) b19
  have bx_u19 := bx_19.cell0
  have bx_v19 := bx_19.cell1
  have bx_w19 := bx_19.cell2
  have ba_u19 := ba_19.cell0
  have ba_v19 := ba_19.cell1
  have ba_w19 := ba_19.cell2
  have bb_u19 := bb_19.cell0
  have bb_v19 := bb_19.cell1
  have bb_w19 := bb_19.cell2
  have bc_u19 := bc_19.cell0
  have bc_v19 := bc_19.cell1
  have bc_w19 := bc_19.cell2
  have bd_u19 := bd_19.cell0
  have bd_v19 := bd_19.cell1
  have bd_w19 := bd_19.cell2
  have bf_u19 := bf_19.cell0
  have bf_v19 := bf_19.cell1
  have bf_w19 := bf_19.cell2
  have lt_bg_bx := bx_19.lt
  have lt_bg_ba := ba_19.lt
  have lt_bg_bb := bb_19.lt
  have lt_bg_bc := bc_19.lt
  have lt_bg_bd := bd_19.lt
  have lt_bg_bf := bf_19.lt
  have k_20 := k_19.alloc (EY s19 A19 n19 c19 x19)
  have T_20 := T_19.alloc (EY s19 A19 n19 c19 x19)
  have ya_20 := ya_19.alloc (EY s19 A19 n19 c19 x19)
  have yb_20 := yb_19.alloc (EY s19 A19 n19 c19 x19)
  have yc_20 := yc_19.alloc (EY s19 A19 n19 c19 x19)
  have yd_20 := yd_19.alloc (EY s19 A19 n19 c19 x19)
  have yf_20 := yf_19.alloc (EY s19 A19 n19 c19 x19)
  have yg_20 := yg.alloc (EY s19 A19 n19 c19 x19)
  have bx_20 := bx_19.alloc (EY s19 A19 n19 c19 x19)
  have ba_20 := ba_19.alloc (EY s19 A19 n19 c19 x19)
  have bb_20 := bb_19.alloc (EY s19 A19 n19 c19 x19)
  have bc_20 := bc_19.alloc (EY s19 A19 n19 c19 x19)
  have bd_20 := bd_19.alloc (EY s19 A19 n19 c19 x19)
  have bf_20 := bf_19.alloc (EY s19 A19 n19 c19 x19)
  have bg_20 : Sy ((w19).alloc (EY s19 A19 n19 c19 x19)) (w19.heap.size) (.bool s19) (.slice A19 n19 c19) (.int .i64 x19) := by have h_ := Sy.new (w19) (.bool s19) (.slice A19 n19 c19) (.int .i64 x19); exact h_
  have F20 := F19.alloc F19.size (EY s19 A19 n19 c19 x19)
  have bx_u20 := bx_20.cell0
  have bx_v20 := bx_20.cell1
  have bx_w20 := bx_20.cell2
  have ba_u20 := ba_20.cell0
  have ba_v20 := ba_20.cell1
  have ba_w20 := ba_20.cell2
  have bb_u20 := bb_20.cell0
  have bb_v20 := bb_20.cell1
  have bb_w20 := bb_20.cell2
  have bc_u20 := bc_20.cell0
  have bc_v20 := bc_20.cell1
  have bc_w20 := bc_20.cell2
  have bd_u20 := bd_20.cell0
  have bd_v20 := bd_20.cell1
  have bd_w20 := bd_20.cell2
  have bf_u20 := bf_20.cell0
  have bf_v20 := bf_20.cell1
  have bf_w20 := bf_20.cell2
  have bg_u20 := bg_20.cell0
  have bg_v20 := bg_20.cell1
  have bg_w20 := bg_20.cell2
  go_wp2_with fail
  refine (rycmp _ _ _ _ _ _ _ _ _ _ va vb r1 _ R1.out ya_20 yb_20 Qa.out Qb.out).mono ?_
  rintro e w21 ⟨rfl, b21⟩
  have ya_21 := ya_20.below b21
  have yb_21 := yb_20.below b21
  have yc_21 := yc_20.below b21
  have yd_21 := yd_20.below b21
  have yf_21 := yf_20.below b21
  have yg_21 := yg_20.below b21
  have ba_21 := ba_20.below b21 ba_20.lt
  have bb_21 := bb_20.below b21 bb_20.lt
  have bc_21 := bc_20.below b21 bc_20.lt
  have bd_21 := bd_20.below b21 bd_20.lt
  have bf_21 := bf_20.below b21 bf_20.lt
  have bg_21 := bg_20.below b21 bg_20.lt
  have F21 := below_then F20 (Nat.le_refl _) b21
  have ba_u21 := ba_21.cell0
  have ba_v21 := ba_21.cell1
  have ba_w21 := ba_21.cell2
  have bb_u21 := bb_21.cell0
  have bb_v21 := bb_21.cell1
  have bb_w21 := bb_21.cell2
  have bc_u21 := bc_21.cell0
  have bc_v21 := bc_21.cell1
  have bc_w21 := bc_21.cell2
  have bd_u21 := bd_21.cell0
  have bd_v21 := bd_21.cell1
  have bd_w21 := bd_21.cell2
  have bf_u21 := bf_21.cell0
  have bf_v21 := bf_21.cell1
  have bf_w21 := bf_21.cell2
  have bg_u21 := bg_21.cell0
  have bg_v21 := bg_21.cell1
  have bg_w21 := bg_21.cell2
  go_wp2_with fail
  refine (rycmp _ _ _ _ _ _ _ _ _ _ vc vd r2 _ R2.out yc_21 yd_21 Qc.out Qd.out).mono ?_
  rintro e w22 ⟨rfl, b22⟩
  have ya_22 := ya_21.below b22
  have yb_22 := yb_21.below b22
  have yc_22 := yc_21.below b22
  have yd_22 := yd_21.below b22
  have yf_22 := yf_21.below b22
  have yg_22 := yg_21.below b22
  have ba_22 := ba_21.below b22 ba_21.lt
  have bb_22 := bb_21.below b22 bb_21.lt
  have bc_22 := bc_21.below b22 bc_21.lt
  have bd_22 := bd_21.below b22 bd_21.lt
  have bf_22 := bf_21.below b22 bf_21.lt
  have bg_22 := bg_21.below b22 bg_21.lt
  have F22 := below_then F21 (Nat.le_refl _) b22
  have ba_u22 := ba_22.cell0
  have ba_v22 := ba_22.cell1
  have ba_w22 := ba_22.cell2
  have bb_u22 := bb_22.cell0
  have bb_v22 := bb_22.cell1
  have bb_w22 := bb_22.cell2
  have bc_u22 := bc_22.cell0
  have bc_v22 := bc_22.cell1
  have bc_w22 := bc_22.cell2
  have bd_u22 := bd_22.cell0
  have bd_v22 := bd_22.cell1
  have bd_w22 := bd_22.cell2
  have bf_u22 := bf_22.cell0
  have bf_v22 := bf_22.cell1
  have bf_w22 := bf_22.cell2
  have bg_u22 := bg_22.cell0
  have bg_v22 := bg_22.cell1
  have bg_w22 := bg_22.cell2
  go_wp2_with fail
  refine (rycmp _ _ _ _ _ _ _ _ _ _ va vf r3 _ R3.out ya_22 yf_22 Qa.out Qf.out).mono ?_
  rintro e w23 ⟨rfl, b23⟩
  have ya_23 := ya_22.below b23
  have yb_23 := yb_22.below b23
  have yc_23 := yc_22.below b23
  have yd_23 := yd_22.below b23
  have yf_23 := yf_22.below b23
  have yg_23 := yg_22.below b23
  have ba_23 := ba_22.below b23 ba_22.lt
  have bb_23 := bb_22.below b23 bb_22.lt
  have bc_23 := bc_22.below b23 bc_22.lt
  have bd_23 := bd_22.below b23 bd_22.lt
  have bf_23 := bf_22.below b23 bf_22.lt
  have bg_23 := bg_22.below b23 bg_22.lt
  have F23 := below_then F22 (Nat.le_refl _) b23
  have ba_u23 := ba_23.cell0
  have ba_v23 := ba_23.cell1
  have ba_w23 := ba_23.cell2
  have bb_u23 := bb_23.cell0
  have bb_v23 := bb_23.cell1
  have bb_w23 := bb_23.cell2
  have bc_u23 := bc_23.cell0
  have bc_v23 := bc_23.cell1
  have bc_w23 := bc_23.cell2
  have bd_u23 := bd_23.cell0
  have bd_v23 := bd_23.cell1
  have bd_w23 := bd_23.cell2
  have bf_u23 := bf_23.cell0
  have bf_v23 := bf_23.cell1
  have bf_w23 := bf_23.cell2
  have bg_u23 := bg_23.cell0
  have bg_v23 := bg_23.cell1
  have bg_w23 := bg_23.cell2
  go_wp2_with fail
  refine (rycmp _ _ _ _ _ _ _ _ _ _ vg vc r4 _ R4.out yg_23 yc_23 Qg.out Qc.out).mono ?_
  rintro e w24 ⟨rfl, b24⟩
  have ya_24 := ya_23.below b24
  have yb_24 := yb_23.below b24
  have yc_24 := yc_23.below b24
  have yd_24 := yd_23.below b24
  have yf_24 := yf_23.below b24
  have yg_24 := yg_23.below b24
  have ba_24 := ba_23.below b24 ba_23.lt
  have bb_24 := bb_23.below b24 bb_23.lt
  have bc_24 := bc_23.below b24 bc_23.lt
  have bd_24 := bd_23.below b24 bd_23.lt
  have bf_24 := bf_23.below b24 bf_23.lt
  have bg_24 := bg_23.below b24 bg_23.lt
  have F24 := below_then F23 (Nat.le_refl _) b24
  have ba_u24 := ba_24.cell0
  have ba_v24 := ba_24.cell1
  have ba_w24 := ba_24.cell2
  have bb_u24 := bb_24.cell0
  have bb_v24 := bb_24.cell1
  have bb_w24 := bb_24.cell2
  have bc_u24 := bc_24.cell0
  have bc_v24 := bc_24.cell1
  have bc_w24 := bc_24.cell2
  have bd_u24 := bd_24.cell0
  have bd_v24 := bd_24.cell1
  have bd_w24 := bd_24.cell2
  have bf_u24 := bf_24.cell0
  have bf_v24 := bf_24.cell1
  have bf_w24 := bf_24.cell2
  have bg_u24 := bg_24.cell0
  have bg_v24 := bg_24.cell1
  have bg_w24 := bg_24.cell2
  go_wp2
  go_ret
  exact ⟨rfl, F24⟩
theorem law_monotone (s : Bool) (A : Option Addr) (n c : Nat) (B : Option Addr) (m d : Nat) (t : Bool) (A' : Option Addr) (n' c' : Nat) (B' : Option Addr) (m' d' : Nat) (xs ys xs' ys' : List Nat) (o : Int) (w : World) (ho : 0 ≤ o ∧ o < 256) (hx : Rd w A n c xs) (hy : Rd w B m d ys) (hx' : Rd w A' n' c' xs') (hy' : Rd w B' m' d' ys') (T : Tb w) : Calls Tryd.prog 7 #[.agg #[.bool s, .slice A n c, .slice B m d], .agg #[.bool t, .slice A' n' c', .slice B' m' d'], .int .u8 o] w (fun e w' => e = .returned (.bool true) ∧ Below w.heap.size w w') := by
  have h : Iq w s A n c B m d (rv s xs ys) := ⟨xs, ys, hx, hy, rfl⟩
  have k : Iq w t A' n' c' B' m' d' (rv t xs' ys') := ⟨xs', ys', hx', hy', rfl⟩
  by_cases h1 : n ≤ 3 ∧ m ≤ 3
  · by_cases h2 : n' ≤ 3 ∧ m' ≤ 3
    · by_cases h3 : rv s xs ys ≤ rv t xs' ys'
      · exact dm_le s A n c B m d t A' n' c' B' m' d' o _ _ w ho h k h1.1 h1.2 h2.1 h2.2 h3 T
      · exact dm_sw s A n c B m d t A' n' c' B' m' d' o _ _ w ho h k h1.1 h1.2 h2.1 h2.2 h3 T
    · exact dm_n2 s A n c B m d t A' n' c' B' m' d' o _ _ w ho h k h1.1 h1.2 h2 T
  · exact dm_n1 s A n c B m d t A' n' c' B' m' d' o _ _ w ho h k h1 T
end Go.Proofs.YthiapkalmmgliaaDoor
