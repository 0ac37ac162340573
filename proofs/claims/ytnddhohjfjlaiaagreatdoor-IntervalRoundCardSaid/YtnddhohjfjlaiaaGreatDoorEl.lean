/-
  The power of 2 and the quotient.
-/
import Derived.Test.YtnddhohjfjlaiaaGreatDoorEk
import Derived.Test.YtnddhohjfjlaiaaGreatDoorEi
namespace Go.Proofs.YtnddhohjfjlaiaaGreatDoor
open Go.RowKit
set_option linter.unusedVariables false
set_option linter.unusedSimpArgs false

theorem times_z (A : Option Addr) (n c k j X Y : Nat) (z y : Int) (w : World) (hz : z = y) (hY : X * 2 ^ y.toNat = Y) (h : Nz w A n c k X) (hl : Y < pw j) (hk : k ≤ 1048576) (hy : y ≤ 1048576) :
    Calls Tryz.prog 76 #[.slice A n c, .int .i64 z] w (GY w j Y) := by
  subst hz
  exact times_n A n c k j X Y z w hY h hl hk hy
theorem cmp_n (A B : Option Addr) (n m c d k l X Y : Nat) (r : Int) (w : World) (hr : sg X Y = r) (h : Nz w A n c k X) (h2 : Nz w B m d l Y) (hk : k ≤ 1048576) (hl : l ≤ 1048576) :
    Calls Tryz.prog 65 #[.slice A n c, .slice B m d] w (Asks w (.int .i64 r)) := by
  obtain ⟨h1, xs, hx, rfl⟩ := h
  obtain ⟨k1, ys, hy, rfl⟩ := h2
  exact cmp_at A B n m c d xs ys w _ _ r rfl rfl hx hy (by omega) (by omega) hr
theorem pow_pw {X i : Nat} (hX : X < pw 3) (hi : i ≤ 310) : X * 2 ^ i < pw 13 := by
  have h : 2 ^ i < pw 10 := two_lt_pw (by omega)
  exact mul_pw hX h
theorem power_lt (A B : Option Addr) (n m c d N D : Nat) (t : Int) (w : World) (h : Nz w A n c 3 N) (h2 : Nz w B m d 3 D) (hN : 0 < N) (hD : 0 < D) (ht : top N D = t) (hl : N * 2 ^ (-((bl N : Int) - bl D)).toNat < D * 2 ^ ((bl N : Int) - bl D).toNat) :
    Calls Tryz.prog 50 #[.slice A n c, .slice B m d] w (Asks w (.tuple #[.int .i64 t, .bool true])) := by
  unfold top at ht
  rw [if_pos hl] at ht
  have b1 := bl_pw h.lt
  have b2 := bl_pw h2.lt
  have l1 := h.lt
  have l2 := h2.lt
  obtain ⟨bN, hbN⟩ : ∃ x, bl N = x := ⟨_, rfl⟩
  obtain ⟨bD, hbD⟩ : ∃ x, bl D = x := ⟨_, rfl⟩
  rw [hbN] at ht b1 hl
  rw [hbD] at ht b2 hl
  obtain ⟨X, hX⟩ : ∃ x, N * 2 ^ (-((bN : Int) - (bD : Int))).toNat = x := ⟨_, rfl⟩
  obtain ⟨Y, hY⟩ : ∃ x, D * 2 ^ ((bN : Int) - (bD : Int)).toNat = x := ⟨_, rfl⟩
  rw [hX, hY] at hl
  obtain ⟨r, hr⟩ : ∃ r, sg X Y = r := ⟨_, rfl⟩
  have hr0 : decide (r < 0) = true := by
    rw [← hr]
    rw [sg_lt hl]; rfl
  have HB := hide (And.intro hbN hbD)
  have HR := hide hr
  have HX := hide hX
  have HY := hide hY
  have HLX := hide (show X < pw 13 by rw [← hX]; exact pow_pw l1 (by omega))
  have HLY := hide (show Y < pw 13 by rw [← hY]; exact pow_pw l2 (by omega))
  have k3 : 3 ≤ 1048576 := by decide
  have k13 : 13 ≤ 1048576 := by decide
  have b1' : bN ≤ 96 := by omega
  have b2' : bD ≤ 96 := by omega
  have d1 : decide ((bN : Int) - (bD : Int) < -1000000) = false := by simp; omega
  have d2 : decide (1000000 < (bN : Int) - (bD : Int)) = false := by simp; omega
  have d3 : decide (-1000000 ≤ (bN : Int) - (bD : Int) - 1) = true := by simp; omega
  have d4 : decide ((bN : Int) - (bD : Int) - 1 < 1000000) = true := by simp; omega
  subst ht
  clear hbN hbD hX hY hr hl b1 b2 l1 l2 hN hD
  go_enter Tryz.func50, Tryz.ntmps50
  go_wp2_with fail
  refine (bits_n _ _ _ _ N bN _ HB.out.1 h k3).mono ?_
  rintro e w' ⟨rfl, rfl⟩
  go_wp2_with fail
  refine (bits_n _ _ _ _ D bD _ HB.out.2 h2 k3).mono ?_
  rintro e w' ⟨rfl, rfl⟩
  go_wp2_with fail
  refine (times_z _ _ _ _ 13 N X _ (-((bN : Int) - (bD : Int))) _ (by first | rfl | omega | go_num) HX.out h HLX.out k3 (by omega)).mono ?_
  rintro e w1 ⟨A1, n1, c1, rfl, x1, b1⟩
  have h_1 := h.below b1
  have h2_1 := h2.below b1
  have F1 := b1
  go_wp2_with fail
  refine (times_z _ _ _ _ 13 D Y _ ((bN : Int) - (bD : Int)) _ (by first | rfl | omega | go_num) HY.out h2_1 HLY.out k3 (by omega)).mono ?_
  rintro e w2 ⟨A2, n2, c2, rfl, y1, b2⟩
  have h_2 := h_1.below b2
  have h2_2 := h2_1.below b2
  have x1_2 := x1.below b2
  have F2 := below_then F1 (Nat.le_refl _) b2
  go_wp2_with fail
  refine (cmp_n _ _ _ _ _ _ _ _ X Y r _ HR.out x1_2.nz y1.nz k13 k13).mono ?_
  rintro e w3 ⟨rfl, b3⟩
  have h_3 := h_2.below b3
  have h2_3 := h2_2.below b3
  have x1_3 := x1_2.below b3
  have y1_3 := y1.below b3
  have F3 := below_then F2 (Nat.le_refl _) b3
  go_wp2
  go_ret2
  exact ⟨rfl, F3⟩
theorem power_ge (A B : Option Addr) (n m c d N D : Nat) (t : Int) (w : World) (h : Nz w A n c 3 N) (h2 : Nz w B m d 3 D) (hN : 0 < N) (hD : 0 < D) (ht : top N D = t) (hl : ¬ N * 2 ^ (-((bl N : Int) - bl D)).toNat < D * 2 ^ ((bl N : Int) - bl D).toNat) :
    Calls Tryz.prog 50 #[.slice A n c, .slice B m d] w (Asks w (.tuple #[.int .i64 t, .bool true])) := by
  unfold top at ht
  rw [if_neg hl] at ht
  have b1 := bl_pw h.lt
  have b2 := bl_pw h2.lt
  have l1 := h.lt
  have l2 := h2.lt
  obtain ⟨bN, hbN⟩ : ∃ x, bl N = x := ⟨_, rfl⟩
  obtain ⟨bD, hbD⟩ : ∃ x, bl D = x := ⟨_, rfl⟩
  rw [hbN] at ht b1 hl
  rw [hbD] at ht b2 hl
  obtain ⟨X, hX⟩ : ∃ x, N * 2 ^ (-((bN : Int) - (bD : Int))).toNat = x := ⟨_, rfl⟩
  obtain ⟨Y, hY⟩ : ∃ x, D * 2 ^ ((bN : Int) - (bD : Int)).toNat = x := ⟨_, rfl⟩
  rw [hX, hY] at hl
  obtain ⟨r, hr⟩ : ∃ r, sg X Y = r := ⟨_, rfl⟩
  have hr0 : decide (r < 0) = false := by
    rw [← hr]
    unfold sg; rw [if_neg hl]; split <;> rfl
  have HB := hide (And.intro hbN hbD)
  have HR := hide hr
  have HX := hide hX
  have HY := hide hY
  have HLX := hide (show X < pw 13 by rw [← hX]; exact pow_pw l1 (by omega))
  have HLY := hide (show Y < pw 13 by rw [← hY]; exact pow_pw l2 (by omega))
  have k3 : 3 ≤ 1048576 := by decide
  have k13 : 13 ≤ 1048576 := by decide
  have b1' : bN ≤ 96 := by omega
  have b2' : bD ≤ 96 := by omega
  have d1 : decide ((bN : Int) - (bD : Int) < -1000000) = false := by simp; omega
  have d2 : decide (1000000 < (bN : Int) - (bD : Int)) = false := by simp; omega
  have d3 : decide (-1000000 ≤ (bN : Int) - (bD : Int)) = true := by simp; omega
  have d4 : decide ((bN : Int) - (bD : Int) < 1000000) = true := by simp; omega
  subst ht
  clear hbN hbD hX hY hr hl b1 b2 l1 l2 hN hD
  go_enter Tryz.func50, Tryz.ntmps50
  go_wp2_with fail
  refine (bits_n _ _ _ _ N bN _ HB.out.1 h k3).mono ?_
  rintro e w' ⟨rfl, rfl⟩
  go_wp2_with fail
  refine (bits_n _ _ _ _ D bD _ HB.out.2 h2 k3).mono ?_
  rintro e w' ⟨rfl, rfl⟩
  go_wp2_with fail
  refine (times_z _ _ _ _ 13 N X _ (-((bN : Int) - (bD : Int))) _ (by first | rfl | omega | go_num) HX.out h HLX.out k3 (by omega)).mono ?_
  rintro e w1 ⟨A1, n1, c1, rfl, x1, b1⟩
  have h_1 := h.below b1
  have h2_1 := h2.below b1
  have F1 := b1
  go_wp2_with fail
  refine (times_z _ _ _ _ 13 D Y _ ((bN : Int) - (bD : Int)) _ (by first | rfl | omega | go_num) HY.out h2_1 HLY.out k3 (by omega)).mono ?_
  rintro e w2 ⟨A2, n2, c2, rfl, y1, b2⟩
  have h_2 := h_1.below b2
  have h2_2 := h2_1.below b2
  have x1_2 := x1.below b2
  have F2 := below_then F1 (Nat.le_refl _) b2
  go_wp2_with fail
  refine (cmp_n _ _ _ _ _ _ _ _ X Y r _ HR.out x1_2.nz y1.nz k13 k13).mono ?_
  rintro e w3 ⟨rfl, b3⟩
  have h_3 := h_2.below b3
  have h2_3 := h2_2.below b3
  have x1_3 := x1_2.below b3
  have y1_3 := y1.below b3
  have F3 := below_then F2 (Nat.le_refl _) b3
  go_wp2
  go_ret2
  exact ⟨rfl, F3⟩
theorem power_n (A B : Option Addr) (n m c d N D : Nat) (t : Int) (w : World) (h : Nz w A n c 3 N) (h2 : Nz w B m d 3 D) (hN : 0 < N) (hD : 0 < D) (ht : top N D = t) : Calls Tryz.prog 50 #[.slice A n c, .slice B m d] w (Asks w (.tuple #[.int .i64 t, .bool true])) := by
  by_cases hl : N * 2 ^ (-((bl N : Int) - bl D)).toNat < D * 2 ^ ((bl N : Int) - bl D).toNat
  · exact power_lt A B n m c d N D t w h h2 hN hD ht hl
  · exact power_ge A B n m c d N D t w h h2 hN hD ht hl
theorem quot_f (A B : Option Addr) (n m c d N D : Nat) (z e : Int) (M : Nat) (w : World) (hz : z = -e) (he : -300 ≤ e ∧ e ≤ 300) (h : Nz w A n c 3 N) (h2 : Nz w B m d 3 D) (hN : 0 < N) (hD : 0 < D) (hM : rmag N D e false = M) :
    Calls Tryz.prog 52 #[.slice A n c, .slice B m d, .int .i64 z, .bool false] w (GY w 14 M) := by
  obtain ⟨e1, e2⟩ := scn_eq N D e
  obtain ⟨X, hX⟩ : ∃ x, N * 2 ^ (-e).toNat = x := ⟨_, rfl⟩
  obtain ⟨Y, hY⟩ : ∃ x, D * 2 ^ e.toNat = x := ⟨_, rfl⟩
  obtain ⟨Q, hQ⟩ : ∃ x, scn N D e = x := ⟨_, rfl⟩
  obtain ⟨R, hR9⟩ : ∃ x, scr N D e = x := ⟨_, rfl⟩
  have hMQ : M = Q := by
    rw [← hM, ← hQ]
    unfold rmag
    rw [if_neg (by simp)]
  rw [hX, hY, hQ] at e1
  rw [hX, hY, hR9] at e2
  have l1 := h.lt
  have l2 := h2.lt
  have HX := hide hX
  have HY := hide hY
  have HY0 := hide (show 0 < Y by rw [← hY]; exact Nat.mul_pos hD (Nat.two_pow_pos _))
  have HLX := hide (show X < pw 13 by rw [← hX]; exact pow_pw l1 (by omega))
  have HLY := hide (show Y < pw 13 by rw [← hY]; exact pow_pw l2 (by omega))
  have HE1 := hide e1
  have HE2 := hide e2
  have k3 : 3 ≤ 1048576 := by decide
  have k13 : 13 ≤ 65536 := by decide
  have k1 : 1 ≤ 13 := by decide
  have k14 : 13 + 1 ≤ 14 := by decide
  have k15 : 14 ≤ 1048576 := by decide
  have he1 := he.1
  have he2 := he.2
  subst hMQ hz
  clear hX hY hQ hR9 e1 e2 l1 l2 hN hD he hM
  go_enter Tryz.func52, Tryz.ntmps52
  go_wp2_with fail
  refine (times_z _ _ _ _ 13 N X _ (-e) _ (by first | rfl | omega | go_num) HX.out h HLX.out k3 (by omega)).mono ?_
  rintro e w1 ⟨A1, n1, c1, rfl, x1, b1⟩
  have h_1 := h.below b1
  have h2_1 := h2.below b1
  have F1 := b1
  go_wp2_with fail
  refine (times_z _ _ _ _ 13 D Y _ e _ (by first | rfl | omega | go_num) HY.out h2_1 HLY.out k3 (by omega)).mono ?_
  rintro e w2 ⟨A2, n2, c2, rfl, y1, b2⟩
  have h_2 := h_1.below b2
  have h2_2 := h2_1.below b2
  have x1_2 := x1.below b2
  have F2 := below_then F1 (Nat.le_refl _) b2
  go_wp2_with fail
  refine (div_n _ _ _ _ _ _ _ _ _ _ M R _ HE1.out HE2.out HY0.out x1_2.nz y1.nz k13 k13).mono ?_
  rintro e w3 ⟨A3, n3, c3, B3, m3, d3, rfl, qq, rr, b3⟩
  have x1_3 := x1_2.below b3
  have y1_3 := y1.below b3
  have F3 := below_then F2 (Nat.le_refl _) b3
  go_wp2
  go_ret
  exact ⟨_, _, _, rfl, qq.mono (by decide), F3⟩
theorem quot_z (A B : Option Addr) (n m c d N D : Nat) (z e : Int) (M : Nat) (w : World) (hz : z = -e) (he : -300 ≤ e ∧ e ≤ 300) (h : Nz w A n c 3 N) (h2 : Nz w B m d 3 D) (hN : 0 < N) (hD : 0 < D) (hM : rmag N D e true = M) (hR : scr N D e = 0) :
    Calls Tryz.prog 52 #[.slice A n c, .slice B m d, .int .i64 z, .bool true] w (GY w 14 M) := by
  obtain ⟨e1, e2⟩ := scn_eq N D e
  obtain ⟨X, hX⟩ : ∃ x, N * 2 ^ (-e).toNat = x := ⟨_, rfl⟩
  obtain ⟨Y, hY⟩ : ∃ x, D * 2 ^ e.toNat = x := ⟨_, rfl⟩
  obtain ⟨Q, hQ⟩ : ∃ x, scn N D e = x := ⟨_, rfl⟩
  obtain ⟨R, hR9⟩ : ∃ x, scr N D e = x := ⟨_, rfl⟩
  have hMQ : M = Q := by
    rw [← hM, ← hQ]
    unfold rmag
    rw [if_neg (by simp [hR])]
  rw [hX, hY, hQ] at e1
  rw [hX, hY, hR9] at e2
  have l1 := h.lt
  have l2 := h2.lt
  have HX := hide hX
  have HY := hide hY
  have HY0 := hide (show 0 < Y by rw [← hY]; exact Nat.mul_pos hD (Nat.two_pow_pos _))
  have HLX := hide (show X < pw 13 by rw [← hX]; exact pow_pw l1 (by omega))
  have HLY := hide (show Y < pw 13 by rw [← hY]; exact pow_pw l2 (by omega))
  have HE1 := hide e1
  have HE2 := hide e2
  have HR := hide (show decide (R = 0) = true by rw [← hR9]; simpa using hR)
  have k3 : 3 ≤ 1048576 := by decide
  have k13 : 13 ≤ 65536 := by decide
  have k1 : 1 ≤ 13 := by decide
  have k14 : 13 + 1 ≤ 14 := by decide
  have k15 : 14 ≤ 1048576 := by decide
  have he1 := he.1
  have he2 := he.2
  subst hMQ hz
  clear hX hY hQ hR9 e1 e2 l1 l2 hN hD he hM hR
  go_enter Tryz.func52, Tryz.ntmps52
  go_wp2_with fail
  refine (times_z _ _ _ _ 13 N X _ (-e) _ (by first | rfl | omega | go_num) HX.out h HLX.out k3 (by omega)).mono ?_
  rintro e w1 ⟨A1, n1, c1, rfl, x1, b1⟩
  have h_1 := h.below b1
  have h2_1 := h2.below b1
  have F1 := b1
  go_wp2_with fail
  refine (times_z _ _ _ _ 13 D Y _ e _ (by first | rfl | omega | go_num) HY.out h2_1 HLY.out k3 (by omega)).mono ?_
  rintro e w2 ⟨A2, n2, c2, rfl, y1, b2⟩
  have h_2 := h_1.below b2
  have h2_2 := h2_1.below b2
  have x1_2 := x1.below b2
  have F2 := below_then F1 (Nat.le_refl _) b2
  go_wp2_with fail
  refine (div_n _ _ _ _ _ _ _ _ _ _ M R _ HE1.out HE2.out HY0.out x1_2.nz y1.nz k13 k13).mono ?_
  rintro e w3 ⟨A3, n3, c3, B3, m3, d3, rfl, qq, rr, b3⟩
  have x1_3 := x1_2.below b3
  have y1_3 := y1.below b3
  have F3 := below_then F2 (Nat.le_refl _) b3
  have e0 := rr.len0 HR.out
  have e1 : decide (0 < (m3 : Int)) = false := by have e9 := e0; simp at e9; simp; omega
  have e2 : decide (0 < m3) = false := by have e9 := e0; simp at e9; simp; omega
  have e3 : ¬ 0 < m3 := by have e9 := e0; simp at e9; omega
  clear e0
  go_wp2
  go_ret
  exact ⟨_, _, _, rfl, qq.mono (by decide), F3⟩
theorem quot_r (A B : Option Addr) (n m c d N D : Nat) (z e : Int) (M : Nat) (w : World) (hz : z = -e) (he : -300 ≤ e ∧ e ≤ 300) (h : Nz w A n c 3 N) (h2 : Nz w B m d 3 D) (hN : 0 < N) (hD : 0 < D) (hM : rmag N D e true = M) (hR : scr N D e ≠ 0) :
    Calls Tryz.prog 52 #[.slice A n c, .slice B m d, .int .i64 z, .bool true] w (GY w 14 M) := by
  obtain ⟨e1, e2⟩ := scn_eq N D e
  obtain ⟨X, hX⟩ : ∃ x, N * 2 ^ (-e).toNat = x := ⟨_, rfl⟩
  obtain ⟨Y, hY⟩ : ∃ x, D * 2 ^ e.toNat = x := ⟨_, rfl⟩
  obtain ⟨Q, hQ⟩ : ∃ x, scn N D e = x := ⟨_, rfl⟩
  obtain ⟨R, hR9⟩ : ∃ x, scr N D e = x := ⟨_, rfl⟩
  have hMQ : M = Q + 1 := by
    rw [← hM, ← hQ]
    unfold rmag
    rw [if_pos ⟨rfl, hR⟩]
  rw [hX, hY, hQ] at e1
  rw [hX, hY, hR9] at e2
  have l1 := h.lt
  have l2 := h2.lt
  have HX := hide hX
  have HY := hide hY
  have HY0 := hide (show 0 < Y by rw [← hY]; exact Nat.mul_pos hD (Nat.two_pow_pos _))
  have HLX := hide (show X < pw 13 by rw [← hX]; exact pow_pw l1 (by omega))
  have HLY := hide (show Y < pw 13 by rw [← hY]; exact pow_pw l2 (by omega))
  have HE1 := hide e1
  have HE2 := hide e2
  have HR := hide (show decide (R = 0) = false by rw [← hR9]; simpa using hR)
  have k3 : 3 ≤ 1048576 := by decide
  have k13 : 13 ≤ 65536 := by decide
  have k1 : 1 ≤ 13 := by decide
  have k14 : 13 + 1 ≤ 14 := by decide
  have k15 : 14 ≤ 1048576 := by decide
  have he1 := he.1
  have he2 := he.2
  subst hMQ hz
  clear hX hY hQ hR9 e1 e2 l1 l2 hN hD he hM hR
  go_enter Tryz.func52, Tryz.ntmps52
  go_wp2_with fail
  refine (times_z _ _ _ _ 13 N X _ (-e) _ (by first | rfl | omega | go_num) HX.out h HLX.out k3 (by omega)).mono ?_
  rintro e w1 ⟨A1, n1, c1, rfl, x1, b1⟩
  have h_1 := h.below b1
  have h2_1 := h2.below b1
  have F1 := b1
  go_wp2_with fail
  refine (times_z _ _ _ _ 13 D Y _ e _ (by first | rfl | omega | go_num) HY.out h2_1 HLY.out k3 (by omega)).mono ?_
  rintro e w2 ⟨A2, n2, c2, rfl, y1, b2⟩
  have h_2 := h_1.below b2
  have h2_2 := h2_1.below b2
  have x1_2 := x1.below b2
  have F2 := below_then F1 (Nat.le_refl _) b2
  go_wp2_with fail
  refine (div_n _ _ _ _ _ _ _ _ _ _ Q R _ HE1.out HE2.out HY0.out x1_2.nz y1.nz k13 k13).mono ?_
  rintro e w3 ⟨A3, n3, c3, B3, m3, d3, rfl, qq, rr, b3⟩
  have x1_3 := x1_2.below b3
  have y1_3 := y1.below b3
  have F3 := below_then F2 (Nat.le_refl _) b3
  have e0 := rr.len0 HR.out
  have e1 : decide (0 < (m3 : Int)) = true := by have e9 := e0; simp at e9; simp; omega
  have e2 : decide (0 < m3) = true := by have e9 := e0; simp at e9; simp; omega
  have e3 : 0 < m3 := by have e9 := e0; simp at e9; omega
  clear e0
  go_wp2_with fail
  refine (one_n _ 13 k1).mono ?_
  rintro e w4 ⟨A4, n4, c4, rfl, o, b4⟩
  have qq_4 := qq.below b4
  have F4 := below_then F3 (Nat.le_refl _) b4
  go_wp2_with fail
  refine (add_n _ _ _ _ _ _ 13 14 Q 1 (Q + 1) _ rfl qq_4.nz o.nz k14 k15).mono ?_
  rintro e w5 ⟨A5, n5, c5, rfl, s9, b5⟩
  have qq_5 := qq_4.below b5
  have o_5 := o.below b5
  have F5 := below_then F4 (Nat.le_refl _) b5
  go_wp2
  go_ret
  exact ⟨_, _, _, rfl, s9, F5⟩
theorem quot_n (A B : Option Addr) (n m c d N D : Nat) (z e : Int) (M : Nat) (away : Bool) (w : World) (hz : z = -e) (he : -300 ≤ e ∧ e ≤ 300) (h : Nz w A n c 3 N) (h2 : Nz w B m d 3 D) (hN : 0 < N) (hD : 0 < D) (hM : rmag N D e away = M) :
    Calls Tryz.prog 52 #[.slice A n c, .slice B m d, .int .i64 z, .bool away] w (GY w 14 M) := by
  cases away
  · exact quot_f A B n m c d N D z e M w hz he h h2 hN hD hM
  · by_cases hR : scr N D e = 0
    · exact quot_z A B n m c d N D z e M w hz he h h2 hN hD hM hR
    · exact quot_r A B n m c d N D z e M w hz he h h2 hN hD hM hR
end Go.Proofs.YtnddhohjfjlaiaaGreatDoor
