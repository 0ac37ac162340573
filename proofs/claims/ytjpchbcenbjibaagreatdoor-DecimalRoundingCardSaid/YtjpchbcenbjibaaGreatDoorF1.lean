/-
  The specification's Fixed: its ways.
-/
import Derived.Test.YtjpchbcenbjibaaGreatDoorD5
namespace Go.Proofs.YtjpchbcenbjibaaGreatDoor
open Go.RowKit
set_option linter.unusedVariables false
set_option linter.unusedSimpArgs false

set_option maxHeartbeats 1000000 in
theorem rfix_pos_frac_p (A : Option Addr) (n c : Nat) (B : Option Addr) (m d : Nat) (X Y K p V Q : Nat) (S L : List UInt8) (w : World) (hx : Ny w A n c K X) (hy : Ny w B m d K Y) (hm0 : 0 < m) (hY : 0 < Y) (hK : K ≤ 1000) (hK1 : 1 ≤ K) (hp : p ≤ 4000) (hp0 : 0 < p)
    (hV : X * 10 ^ p * 2 + Y = V) (hQ : V / (Y * 2) = Q)  (hS : padz p (dtx Q) = S) (hL : L = (S.take (S.length - p) ++ 46 :: S.drop (S.length - p))) :
    Calls Tryz.prog 9 #[.agg #[.bool false, .slice A n c, .slice B m d], .int .i64 (p : Int)] w (Asks w (.tuple #[.string (bs L), .int .i64 0])) := by
  have hS1 := (padz_len p (dtx Q)).1
  have hS2 : S.length ≤ 1000000 ∧ p + 1 ≤ S.length := by
    rw [← hS]
    refine ⟨padz_max ?_ (by omega), hS1⟩
    have q1 : Q ≤ V := by rw [← hQ]; exact Nat.div_le_self _ _
    have hv : V < pw (K + (p + 1) + 1 + 1) := by
      rw [← hV]
      have a1 := mul_pw (mul_pw hx.lt (ten_lt_pw p)) (show 2 < pw 1 by decide)
      have a2 : Y < pw (K + (p + 1) + 1) := Nat.lt_of_lt_of_le hy.lt (pw_mono (by omega))
      exact add_pw a1 a2
    exact Nat.le_trans (dtx_pw (Nat.lt_of_le_of_lt q1 hv) (by omega)) (by omega)
  have hdq : (dtx Q).length ≤ S.length := by rw [← hS, padz, List.length_append]; omega
  have hdt : (dt Q).length ≤ 1000000 := by
    have : (dt Q).length ≤ (dtx Q).length := dt_le_dtx Q
    omega
  have HV := hide hV
  have HQ := hide hQ
  have HS := hide hS
  have HL := hide hL
  have o1 : K + (p + 1) ≤ 1048576 := by omega
  have o2 : K + (p + 1) + 1 ≤ 1048576 := by omega
  have o3 : K + (p + 1) + 1 + 1 ≤ 1048576 := by omega
  have o4 : K + (p + 1) + 1 + 1 ≤ 16384 := by omega
  have o5 : K + 1 ≤ K + (p + 1) + 1 + 1 := by omega
  have o6 : 1 + 1 ≤ K + (p + 1) + 1 + 1 := by omega
  have o7 : p ≤ 5000 := by omega
  have r_ := Nat.le_refl
  have p0 : decide ((p : Int) < 0) = false := by simp
  have p1 : decide ((4000 : Int) < (p : Int)) = false := by simp; omega
  clear hV hQ hS hL hS1 hdq 
  have hx_1 := hx.alloc (EQ false A n c B m d)
  have hy_1 := hy.alloc (EQ false A n c B m d)
  have bx_1 : Sq ((w).alloc (EQ false A n c B m d)) (w.heap.size) (.bool false) (.slice A n c) (.slice B m d) := by have h_ := Sq.new (w) (.bool false) (.slice A n c) (.slice B m d); exact h_
  have F1 := (Below.refl w.heap.size w).alloc (Nat.le_refl _) (EQ false A n c B m d)
  go_enter Tryz.func9, Tryz.ntmps9
  go_wp2_with fail
  refine (rof_n 1 1 1 _ rfl (by decide) (by decide)).mono ?_
  rintro e w2 ⟨A2, n2, c2, rfl, one, b2⟩
  have hx_2 := hx_1.below b2
  have hy_2 := hy_1.below b2
  have bx_2 := bx_1.below b2 bx_1.lt
  have F2 := below_then F1 (Nat.le_refl _) b2
  have bx_u2 := bx_2.cell0
  have bx_v2 := bx_2.cell1
  have bx_w2 := bx_2.cell2
  go_wp2_with fail
  have hx_3 := hx_2.drew
  have hy_3 := hy_2.drew
  have bx_3 := bx_2.drew
  have F3 := F2.drew
  go_region_held3 (fun w' => w'.cell? ⟨w.heap.size, 0, none⟩ = some (.bool false) ∧ w'.cell? ⟨w.heap.size, 1, none⟩ = some (.slice A n c) ∧ w'.cell? ⟨w.heap.size, 2, none⟩ = some (.slice B m d))
    (first
      | with_reducible exact ⟨bx_8.cell0, bx_8.cell1, bx_8.cell2⟩
      | with_reducible exact ⟨bx_7.cell0, bx_7.cell1, bx_7.cell2⟩
      | with_reducible exact ⟨bx_6.cell0, bx_6.cell1, bx_6.cell2⟩
      | with_reducible exact ⟨bx_5.cell0, bx_5.cell1, bx_5.cell2⟩
      | with_reducible exact ⟨bx_4.cell0, bx_4.cell1, bx_4.cell2⟩
      | with_reducible exact ⟨bx_3.cell0, bx_3.cell1, bx_3.cell2⟩
      | fail)
    (first
      | (go_at_call 28; (with_reducible refine (power_n p _ o7).mono ?_); rintro e w4 ⟨A4, n4, c4, rfl, tp, b4⟩; have hx_4 := hx_3.below b4; have hy_4 := hy_3.below b4; have bx_4 := bx_3.below b4 bx_3.lt; have F4 := below_then F3 (Nat.le_refl _) b4)
      | (go_at_call 27; (with_reducible refine (rmul_n _ _ _ _ _ _ K (p + 1) (K + (p + 1)) _ _ (X * 10 ^ p) _ rfl hx_4.nz tp.nz (r_ _) o1).mono ?_); rintro e w5 ⟨A5, n5, c5, rfl, m1, b5⟩; have hx_5 := hx_4.below b5; have hy_5 := hy_4.below b5; have tp_5 := tp.below b5; have bx_5 := bx_4.below b5 bx_4.lt; have F5 := below_then F4 (Nat.le_refl _) b5)
      | (go_at_call 25; (with_reducible refine (rof_n 2 2 1 _ rfl (by decide) (by decide)).mono ?_); rintro e w6 ⟨A6, n6, c6, rfl, two, b6⟩; have hx_6 := hx_5.below b6; have hy_6 := hy_5.below b6; have tp_6 := tp_5.below b6; have m1_6 := m1.below b6; have bx_6 := bx_5.below b6 bx_5.lt; have F6 := below_then F5 (Nat.le_refl _) b6)
      | (go_at_call 27; (with_reducible refine (rmul_n _ _ _ _ _ _ (K + (p + 1)) 1 (K + (p + 1) + 1) _ _ (X * 10 ^ p * 2) _ rfl m1_6.nz two.nz (r_ _) o2).mono ?_); rintro e w7 ⟨A7, n7, c7, rfl, m2, b7⟩; have hx_7 := hx_6.below b7; have hy_7 := hy_6.below b7; have tp_7 := tp_6.below b7; have m1_7 := m1_6.below b7; have two_7 := two.below b7; have bx_7 := bx_6.below b7 bx_6.lt; have F7 := below_then F6 (Nat.le_refl _) b7)
      | (go_at_call 26; (with_reducible refine (radd_n _ _ _ _ _ _ (K + (p + 1) + 1) K (K + (p + 1) + 1 + 1) _ _ V _ HV.out m2.nz hy_7.nz (r_ _) o5 o3).mono ?_); rintro e w8 ⟨A8, n8, c8, rfl, vv, b8⟩; have hx_8 := hx_7.below b8; have hy_8 := hy_7.below b8; have tp_8 := tp_7.below b8; have m1_8 := m1_7.below b8; have two_8 := two_7.below b8; have m2_8 := m2.below b8; have bx_8 := bx_7.below b8 bx_7.lt; have F8 := below_then F7 (Nat.le_refl _) b8)
      | fail)
  have bx_u8 := bx_8.cell0
  have bx_v8 := bx_8.cell1
  have bx_w8 := bx_8.cell2
  go_wp2_with fail
  refine (rof_n 2 2 1 _ rfl (by decide) (by decide)).mono ?_
  rintro e w9 ⟨A9, n9, c9, rfl, two, b9⟩
  have hx_9 := hx_8.below b9
  have hy_9 := hy_8.below b9
  have vv_9 := vv.below b9
  have bx_9 := bx_8.below b9 bx_8.lt
  have F9 := below_then F8 (Nat.le_refl _) b9
  have bx_u9 := bx_9.cell0
  have bx_v9 := bx_9.cell1
  have bx_w9 := bx_9.cell2
  go_wp2_with fail
  refine (rmul_n _ _ _ _ _ _ K 1 (K + 1) _ _ (Y * 2) _ rfl hy_9.nz two.nz (r_ _) (by omega)).mono ?_
  rintro e w10 ⟨A10, n10, c10, rfl, d2_, b10⟩
  have hx_10 := hx_9.below b10
  have hy_10 := hy_9.below b10
  have vv_10 := vv_9.below b10
  have two_10 := two.below b10
  have bx_10 := bx_9.below b10 bx_9.lt
  have F10 := below_then F9 (Nat.le_refl _) b10
  have bx_u10 := bx_10.cell0
  have bx_v10 := bx_10.cell1
  have bx_w10 := bx_10.cell2
  go_wp2_with fail
  refine (rdiv_n _ _ _ _ _ _ (K + (p + 1) + 1 + 1) (K + 1) V (Y * 2) Q _ _ HQ.out rfl (by omega) vv_10.nz d2_.nz o4 (by omega)).mono ?_
  rintro e w11 ⟨A11, n11, c11, B11, m11, d11, rfl, qq, rr, b11⟩
  have hx_11 := hx_10.below b11
  have hy_11 := hy_10.below b11
  have vv_11 := vv_10.below b11
  have two_11 := two_10.below b11
  have d2__11 := d2_.below b11
  have bx_11 := bx_10.below b11 bx_10.lt
  have F11 := below_then F10 (Nat.le_refl _) b11
  have bx_u11 := bx_11.cell0
  have bx_v11 := bx_11.cell1
  have bx_w11 := bx_11.cell2
  go_wp2_with fail
  refine (digits_calls _ _ _ (K + (p + 1) + 1 + 1) Q _ qq o4 hdt).mono ?_
  rintro e w12 ⟨rfl, b12⟩
  have hx_12 := hx_11.below b12
  have hy_12 := hy_11.below b12
  have qq_12 := qq.below b12
  have bx_12 := bx_11.below b12 bx_11.lt
  have F12 := below_then F11 (Nat.le_refl _) b12
  have bx_u12 := bx_12.cell0
  have bx_v12 := bx_12.cell1
  have bx_w12 := bx_12.cell2
  have HC := hide hS2
  go_wp2_with fail
  go_loop [11] (fun sv => ∃ i : Nat, i + (dtx Q).length ≤ max (p + 1) (dtx Q).length ∧ sv = .string (bs (List.replicate i 48 ++ dtx Q))) (fun sv => p + 1 - strLen sv)
  case atStart => exact ⟨0, by omega, rfl⟩
  case round =>
    obtain ⟨i, hi, rfl⟩ := hrel
    have hz : (bs (List.replicate i 48 ++ dtx Q)).size = i + (dtx Q).length := by rw [bs_size, List.length_append, List.length_replicate]
    obtain ⟨N_, hN_⟩ : ∃ k, i + (dtx Q).length = k := ⟨_, rfl⟩
    have hlim : max (p + 1) (dtx Q).length ≤ S.length := by rw [← HS.out, padz, List.length_append, List.length_replicate]; omega
    have hc_ := HC.out
    rw [hN_] at hz hi
    have z1 : ¬ (9223372036854775807 < 1 + N_) := by omega
    by_cases hlt : N_ ≤ p
    · have t1 : decide ((N_ : Int) ≤ (p : Int)) = true := by simp; omega
      have HZ := hide (show (⟨#[48]⟩ : ByteArray) ++ bs (List.replicate i 48 ++ dtx Q) = bs (List.replicate (i + 1) 48 ++ dtx Q) by rw [show (⟨#[48]⟩ : ByteArray) = bs [48] from rfl, bs_append]; rfl)
      have HN := hide hN_
      clear hN_ hlim hc_ hi
      go_wp2_with fail
      go_round
      case rel => exact ⟨i + 1, by have := HN.out; omega, by rw [HZ.out]⟩
      case measure =>
        rw [HZ.out]
        simp only [strLen, bs_size, List.length_append, List.length_replicate]
        have := HN.out
        omega
    · have HE := hide (show List.replicate i 48 ++ dtx Q = S by rw [← HS.out, padz]; congr 2; omega)
      have hSN : S.length = N_ := by rw [← HE.out, List.length_append, List.length_replicate]; exact hN_
      have t1 : decide ((N_ : Int) ≤ (p : Int)) = false := by simp; omega
      rw [HE.out] at hz ⊢
      have hN0 : p + 1 ≤ N_ := by omega
      have hN1 : N_ ≤ 1000000 := by omega
      have HSN := hide hSN
      clear hN_ hlim hc_ hi hSN hlt
      have HB := hide (show (bs S).extract 0 (N_ - p) ++ (⟨#[46]⟩ : ByteArray) ++ (bs S).extract (N_ - p) N_ = bs L by
        rw [HL.out, bs_cut0 S _ (by have := HSN.out; omega), bs_cut S _ _ HSN.out.symm, show (⟨#[46]⟩ : ByteArray) = bs [46] from rfl, HSN.out]
        simp only [bs_append]
        simp)
      go_wp2_with fail
      go_quiet (fail)
      go_wp2
      go_ret2
      exact ⟨by rw [← HB.out]; rfl, below_drewN F12 _⟩
set_option maxHeartbeats 1000000 in
theorem rfix_neg_int_0 (A : Option Addr) (n c : Nat) (B : Option Addr) (m d : Nat) (X K p V Q : Nat) (S L : List UInt8) (w : World) (hx : Ny w A n c K X) (hm0 : m = 0) (hK : K ≤ 1000) (hK1 : 1 ≤ K) (hp : p ≤ 4000) (hp0 : p = 0)
    (hV : X * 10 ^ p * 2 + 1 = V) (hQ : V / (1 * 2) = Q) (hQ0 : Q ≠ 0) (hS : padz p (dtx Q) = S) (hL : L = [45] ++ (S)) :
    Calls Tryz.prog 9 #[.agg #[.bool true, .slice A n c, .slice B m d], .int .i64 (p : Int)] w (Asks w (.tuple #[.string (bs L), .int .i64 0])) := by
  have hS1 := (padz_len p (dtx Q)).1
  have hS2 : S.length ≤ 1000000 ∧ p + 1 ≤ S.length := by
    rw [← hS]
    refine ⟨padz_max ?_ (by omega), hS1⟩
    have q1 : Q ≤ V := by rw [← hQ]; exact Nat.div_le_self _ _
    have hv : V < pw (K + (p + 1) + 1 + 1) := by
      rw [← hV]
      have a1 := mul_pw (mul_pw hx.lt (ten_lt_pw p)) (show 2 < pw 1 by decide)
      have a2 : 1 < pw (K + (p + 1) + 1) := Nat.lt_of_lt_of_le (by decide : 1 < pw 1) (pw_mono (by omega))
      exact add_pw a1 a2
    exact Nat.le_trans (dtx_pw (Nat.lt_of_le_of_lt q1 hv) (by omega)) (by omega)
  have hdq : (dtx Q).length ≤ S.length := by rw [← hS, padz, List.length_append]; omega
  have hdt : (dt Q).length ≤ 1000000 := by
    have : (dt Q).length ≤ (dtx Q).length := dt_le_dtx Q
    omega
  have HV := hide hV
  have HQ := hide hQ
  have HS := hide hS
  have HL := hide hL
  have HQ0 := hide hQ0
  have o1 : K + (p + 1) ≤ 1048576 := by omega
  have o2 : K + (p + 1) + 1 ≤ 1048576 := by omega
  have o3 : K + (p + 1) + 1 + 1 ≤ 1048576 := by omega
  have o4 : K + (p + 1) + 1 + 1 ≤ 16384 := by omega
  have o5 : K + 1 ≤ K + (p + 1) + 1 + 1 := by omega
  have o6 : 1 + 1 ≤ K + (p + 1) + 1 + 1 := by omega
  have o7 : p ≤ 5000 := by omega
  have r_ := Nat.le_refl
  have p0 : decide ((p : Int) < 0) = false := by simp
  have p1 : decide ((4000 : Int) < (p : Int)) = false := by simp; omega
  clear hV hQ hS hL hS1 hdq hQ0
  subst hm0
  have HP0 := hide hp0
  have p2 : decide (0 < p) = false := by simp; omega
  have p3 : decide ((0 : Int) < (p : Int)) = false := by simp; omega
  clear hp0
  have hx_1 := hx.alloc (EQ true A n c B 0 d)
  have bx_1 : Sq ((w).alloc (EQ true A n c B 0 d)) (w.heap.size) (.bool true) (.slice A n c) (.slice B 0 d) := by have h_ := Sq.new (w) (.bool true) (.slice A n c) (.slice B 0 d); exact h_
  have F1 := (Below.refl w.heap.size w).alloc (Nat.le_refl _) (EQ true A n c B 0 d)
  go_enter Tryz.func9, Tryz.ntmps9
  go_wp2_with fail
  refine (rof_n 1 1 1 _ rfl (by decide) (by decide)).mono ?_
  rintro e w2 ⟨A2, n2, c2, rfl, one, b2⟩
  have hx_2 := hx_1.below b2
  have bx_2 := bx_1.below b2 bx_1.lt
  have F2 := below_then F1 (Nat.le_refl _) b2
  have bx_u2 := bx_2.cell0
  have bx_v2 := bx_2.cell1
  have bx_w2 := bx_2.cell2
  go_wp2_with fail
  have hx_3 := hx_2.drew
  have one_3 := one.drew
  have bx_3 := bx_2.drew
  have F3 := F2.drew
  go_region_held3 (fun w' => w'.cell? ⟨w.heap.size, 0, none⟩ = some (.bool true) ∧ w'.cell? ⟨w.heap.size, 1, none⟩ = some (.slice A n c) ∧ w'.cell? ⟨w.heap.size, 2, none⟩ = some (.slice B 0 d))
    (first
      | with_reducible exact ⟨bx_8.cell0, bx_8.cell1, bx_8.cell2⟩
      | with_reducible exact ⟨bx_7.cell0, bx_7.cell1, bx_7.cell2⟩
      | with_reducible exact ⟨bx_6.cell0, bx_6.cell1, bx_6.cell2⟩
      | with_reducible exact ⟨bx_5.cell0, bx_5.cell1, bx_5.cell2⟩
      | with_reducible exact ⟨bx_4.cell0, bx_4.cell1, bx_4.cell2⟩
      | with_reducible exact ⟨bx_3.cell0, bx_3.cell1, bx_3.cell2⟩
      | fail)
    (first
      | (go_at_call 28; (with_reducible refine (power_n p _ o7).mono ?_); rintro e w4 ⟨A4, n4, c4, rfl, tp, b4⟩; have hx_4 := hx_3.below b4; have one_4 := one_3.below b4; have bx_4 := bx_3.below b4 bx_3.lt; have F4 := below_then F3 (Nat.le_refl _) b4)
      | (go_at_call 27; (with_reducible refine (rmul_n _ _ _ _ _ _ K (p + 1) (K + (p + 1)) _ _ (X * 10 ^ p) _ rfl hx_4.nz tp.nz (r_ _) o1).mono ?_); rintro e w5 ⟨A5, n5, c5, rfl, m1, b5⟩; have hx_5 := hx_4.below b5; have one_5 := one_4.below b5; have tp_5 := tp.below b5; have bx_5 := bx_4.below b5 bx_4.lt; have F5 := below_then F4 (Nat.le_refl _) b5)
      | (go_at_call 25; (with_reducible refine (rof_n 2 2 1 _ rfl (by decide) (by decide)).mono ?_); rintro e w6 ⟨A6, n6, c6, rfl, two, b6⟩; have hx_6 := hx_5.below b6; have one_6 := one_5.below b6; have tp_6 := tp_5.below b6; have m1_6 := m1.below b6; have bx_6 := bx_5.below b6 bx_5.lt; have F6 := below_then F5 (Nat.le_refl _) b6)
      | (go_at_call 27; (with_reducible refine (rmul_n _ _ _ _ _ _ (K + (p + 1)) 1 (K + (p + 1) + 1) _ _ (X * 10 ^ p * 2) _ rfl m1_6.nz two.nz (r_ _) o2).mono ?_); rintro e w7 ⟨A7, n7, c7, rfl, m2, b7⟩; have hx_7 := hx_6.below b7; have one_7 := one_6.below b7; have tp_7 := tp_6.below b7; have m1_7 := m1_6.below b7; have two_7 := two.below b7; have bx_7 := bx_6.below b7 bx_6.lt; have F7 := below_then F6 (Nat.le_refl _) b7)
      | (go_at_call 26; (with_reducible refine (radd_n _ _ _ _ _ _ (K + (p + 1) + 1) 1 (K + (p + 1) + 1 + 1) _ _ V _ HV.out m2.nz one_7.nz (r_ _) o6 o3).mono ?_); rintro e w8 ⟨A8, n8, c8, rfl, vv, b8⟩; have hx_8 := hx_7.below b8; have one_8 := one_7.below b8; have tp_8 := tp_7.below b8; have m1_8 := m1_7.below b8; have two_8 := two_7.below b8; have m2_8 := m2.below b8; have bx_8 := bx_7.below b8 bx_7.lt; have F8 := below_then F7 (Nat.le_refl _) b8)
      | fail)
  have bx_u8 := bx_8.cell0
  have bx_v8 := bx_8.cell1
  have bx_w8 := bx_8.cell2
  go_wp2_with fail
  refine (rof_n 2 2 1 _ rfl (by decide) (by decide)).mono ?_
  rintro e w9 ⟨A9, n9, c9, rfl, two, b9⟩
  have hx_9 := hx_8.below b9
  have one_9 := one_8.below b9
  have vv_9 := vv.below b9
  have bx_9 := bx_8.below b9 bx_8.lt
  have F9 := below_then F8 (Nat.le_refl _) b9
  have bx_u9 := bx_9.cell0
  have bx_v9 := bx_9.cell1
  have bx_w9 := bx_9.cell2
  go_wp2_with fail
  refine (rmul_n _ _ _ _ _ _ 1 1 (1 + 1) _ _ (1 * 2) _ rfl one_9.nz two.nz (r_ _) (by omega)).mono ?_
  rintro e w10 ⟨A10, n10, c10, rfl, d2_, b10⟩
  have hx_10 := hx_9.below b10
  have one_10 := one_9.below b10
  have vv_10 := vv_9.below b10
  have two_10 := two.below b10
  have bx_10 := bx_9.below b10 bx_9.lt
  have F10 := below_then F9 (Nat.le_refl _) b10
  have bx_u10 := bx_10.cell0
  have bx_v10 := bx_10.cell1
  have bx_w10 := bx_10.cell2
  go_wp2_with fail
  refine (rdiv_n _ _ _ _ _ _ (K + (p + 1) + 1 + 1) (1 + 1) V (1 * 2) Q _ _ HQ.out rfl (by omega) vv_10.nz d2_.nz o4 (by omega)).mono ?_
  rintro e w11 ⟨A11, n11, c11, B11, m11, d11, rfl, qq, rr, b11⟩
  have hx_11 := hx_10.below b11
  have one_11 := one_10.below b11
  have vv_11 := vv_10.below b11
  have two_11 := two_10.below b11
  have d2__11 := d2_.below b11
  have bx_11 := bx_10.below b11 bx_10.lt
  have F11 := below_then F10 (Nat.le_refl _) b11
  have bx_u11 := bx_11.cell0
  have bx_v11 := bx_11.cell1
  have bx_w11 := bx_11.cell2
  go_wp2_with fail
  refine (digits_calls _ _ _ (K + (p + 1) + 1 + 1) Q _ qq o4 hdt).mono ?_
  rintro e w12 ⟨rfl, b12⟩
  have hx_12 := hx_11.below b12
  have one_12 := one_11.below b12
  have qq_12 := qq.below b12
  have bx_12 := bx_11.below b12 bx_11.lt
  have F12 := below_then F11 (Nat.le_refl _) b12
  have bx_u12 := bx_12.cell0
  have bx_v12 := bx_12.cell1
  have bx_w12 := bx_12.cell2
  have q0 := ny_pos qq_12
  have q1 : 0 < n11 := by have := HQ0.out; omega
  clear q0
  have HC := hide hS2
  go_wp2_with fail
  go_loop [11] (fun sv => ∃ i : Nat, i + (dtx Q).length ≤ max (p + 1) (dtx Q).length ∧ sv = .string (bs (List.replicate i 48 ++ dtx Q))) (fun sv => p + 1 - strLen sv)
  case atStart => exact ⟨0, by omega, rfl⟩
  case round =>
    obtain ⟨i, hi, rfl⟩ := hrel
    have hz : (bs (List.replicate i 48 ++ dtx Q)).size = i + (dtx Q).length := by rw [bs_size, List.length_append, List.length_replicate]
    obtain ⟨N_, hN_⟩ : ∃ k, i + (dtx Q).length = k := ⟨_, rfl⟩
    have hlim : max (p + 1) (dtx Q).length ≤ S.length := by rw [← HS.out, padz, List.length_append, List.length_replicate]; omega
    have hc_ := HC.out
    rw [hN_] at hz hi
    have z1 : ¬ (9223372036854775807 < 1 + N_) := by omega
    by_cases hlt : N_ ≤ p
    · have t1 : decide ((N_ : Int) ≤ (p : Int)) = true := by simp; omega
      have HZ := hide (show (⟨#[48]⟩ : ByteArray) ++ bs (List.replicate i 48 ++ dtx Q) = bs (List.replicate (i + 1) 48 ++ dtx Q) by rw [show (⟨#[48]⟩ : ByteArray) = bs [48] from rfl, bs_append]; rfl)
      have HN := hide hN_
      clear hN_ hlim hc_ hi
      go_wp2_with fail
      go_round
      case rel => exact ⟨i + 1, by have := HN.out; omega, by rw [HZ.out]⟩
      case measure =>
        rw [HZ.out]
        simp only [strLen, bs_size, List.length_append, List.length_replicate]
        have := HN.out
        omega
    · have HE := hide (show List.replicate i 48 ++ dtx Q = S by rw [← HS.out, padz]; congr 2; omega)
      have hSN : S.length = N_ := by rw [← HE.out, List.length_append, List.length_replicate]; exact hN_
      have t1 : decide ((N_ : Int) ≤ (p : Int)) = false := by simp; omega
      rw [HE.out] at hz ⊢
      have hN0 : p + 1 ≤ N_ := by omega
      have hN1 : N_ ≤ 1000000 := by omega
      have HSN := hide hSN
      clear hN_ hlim hc_ hi hSN hlt
      have HB := hide (show (⟨#[45]⟩ : ByteArray) ++ bs S = bs L by rw [HL.out, show (⟨#[45]⟩ : ByteArray) = bs [45] from rfl, bs_append])
      go_wp2
      go_ret2
      exact ⟨by rw [← HB.out]; rfl, F12⟩
set_option maxHeartbeats 1000000 in
theorem rfix_neg_int_p (A : Option Addr) (n c : Nat) (B : Option Addr) (m d : Nat) (X K p V Q : Nat) (S L : List UInt8) (w : World) (hx : Ny w A n c K X) (hm0 : m = 0) (hK : K ≤ 1000) (hK1 : 1 ≤ K) (hp : p ≤ 4000) (hp0 : 0 < p)
    (hV : X * 10 ^ p * 2 + 1 = V) (hQ : V / (1 * 2) = Q) (hQ0 : Q ≠ 0) (hS : padz p (dtx Q) = S) (hL : L = [45] ++ (S.take (S.length - p) ++ 46 :: S.drop (S.length - p))) :
    Calls Tryz.prog 9 #[.agg #[.bool true, .slice A n c, .slice B m d], .int .i64 (p : Int)] w (Asks w (.tuple #[.string (bs L), .int .i64 0])) := by
  have hS1 := (padz_len p (dtx Q)).1
  have hS2 : S.length ≤ 1000000 ∧ p + 1 ≤ S.length := by
    rw [← hS]
    refine ⟨padz_max ?_ (by omega), hS1⟩
    have q1 : Q ≤ V := by rw [← hQ]; exact Nat.div_le_self _ _
    have hv : V < pw (K + (p + 1) + 1 + 1) := by
      rw [← hV]
      have a1 := mul_pw (mul_pw hx.lt (ten_lt_pw p)) (show 2 < pw 1 by decide)
      have a2 : 1 < pw (K + (p + 1) + 1) := Nat.lt_of_lt_of_le (by decide : 1 < pw 1) (pw_mono (by omega))
      exact add_pw a1 a2
    exact Nat.le_trans (dtx_pw (Nat.lt_of_le_of_lt q1 hv) (by omega)) (by omega)
  have hdq : (dtx Q).length ≤ S.length := by rw [← hS, padz, List.length_append]; omega
  have hdt : (dt Q).length ≤ 1000000 := by
    have : (dt Q).length ≤ (dtx Q).length := dt_le_dtx Q
    omega
  have HV := hide hV
  have HQ := hide hQ
  have HS := hide hS
  have HL := hide hL
  have HQ0 := hide hQ0
  have o1 : K + (p + 1) ≤ 1048576 := by omega
  have o2 : K + (p + 1) + 1 ≤ 1048576 := by omega
  have o3 : K + (p + 1) + 1 + 1 ≤ 1048576 := by omega
  have o4 : K + (p + 1) + 1 + 1 ≤ 16384 := by omega
  have o5 : K + 1 ≤ K + (p + 1) + 1 + 1 := by omega
  have o6 : 1 + 1 ≤ K + (p + 1) + 1 + 1 := by omega
  have o7 : p ≤ 5000 := by omega
  have r_ := Nat.le_refl
  have p0 : decide ((p : Int) < 0) = false := by simp
  have p1 : decide ((4000 : Int) < (p : Int)) = false := by simp; omega
  clear hV hQ hS hL hS1 hdq hQ0
  subst hm0
  have hx_1 := hx.alloc (EQ true A n c B 0 d)
  have bx_1 : Sq ((w).alloc (EQ true A n c B 0 d)) (w.heap.size) (.bool true) (.slice A n c) (.slice B 0 d) := by have h_ := Sq.new (w) (.bool true) (.slice A n c) (.slice B 0 d); exact h_
  have F1 := (Below.refl w.heap.size w).alloc (Nat.le_refl _) (EQ true A n c B 0 d)
  go_enter Tryz.func9, Tryz.ntmps9
  go_wp2_with fail
  refine (rof_n 1 1 1 _ rfl (by decide) (by decide)).mono ?_
  rintro e w2 ⟨A2, n2, c2, rfl, one, b2⟩
  have hx_2 := hx_1.below b2
  have bx_2 := bx_1.below b2 bx_1.lt
  have F2 := below_then F1 (Nat.le_refl _) b2
  have bx_u2 := bx_2.cell0
  have bx_v2 := bx_2.cell1
  have bx_w2 := bx_2.cell2
  go_wp2_with fail
  have hx_3 := hx_2.drew
  have one_3 := one.drew
  have bx_3 := bx_2.drew
  have F3 := F2.drew
  go_region_held3 (fun w' => w'.cell? ⟨w.heap.size, 0, none⟩ = some (.bool true) ∧ w'.cell? ⟨w.heap.size, 1, none⟩ = some (.slice A n c) ∧ w'.cell? ⟨w.heap.size, 2, none⟩ = some (.slice B 0 d))
    (first
      | with_reducible exact ⟨bx_8.cell0, bx_8.cell1, bx_8.cell2⟩
      | with_reducible exact ⟨bx_7.cell0, bx_7.cell1, bx_7.cell2⟩
      | with_reducible exact ⟨bx_6.cell0, bx_6.cell1, bx_6.cell2⟩
      | with_reducible exact ⟨bx_5.cell0, bx_5.cell1, bx_5.cell2⟩
      | with_reducible exact ⟨bx_4.cell0, bx_4.cell1, bx_4.cell2⟩
      | with_reducible exact ⟨bx_3.cell0, bx_3.cell1, bx_3.cell2⟩
      | fail)
    (first
      | (go_at_call 28; (with_reducible refine (power_n p _ o7).mono ?_); rintro e w4 ⟨A4, n4, c4, rfl, tp, b4⟩; have hx_4 := hx_3.below b4; have one_4 := one_3.below b4; have bx_4 := bx_3.below b4 bx_3.lt; have F4 := below_then F3 (Nat.le_refl _) b4)
      | (go_at_call 27; (with_reducible refine (rmul_n _ _ _ _ _ _ K (p + 1) (K + (p + 1)) _ _ (X * 10 ^ p) _ rfl hx_4.nz tp.nz (r_ _) o1).mono ?_); rintro e w5 ⟨A5, n5, c5, rfl, m1, b5⟩; have hx_5 := hx_4.below b5; have one_5 := one_4.below b5; have tp_5 := tp.below b5; have bx_5 := bx_4.below b5 bx_4.lt; have F5 := below_then F4 (Nat.le_refl _) b5)
      | (go_at_call 25; (with_reducible refine (rof_n 2 2 1 _ rfl (by decide) (by decide)).mono ?_); rintro e w6 ⟨A6, n6, c6, rfl, two, b6⟩; have hx_6 := hx_5.below b6; have one_6 := one_5.below b6; have tp_6 := tp_5.below b6; have m1_6 := m1.below b6; have bx_6 := bx_5.below b6 bx_5.lt; have F6 := below_then F5 (Nat.le_refl _) b6)
      | (go_at_call 27; (with_reducible refine (rmul_n _ _ _ _ _ _ (K + (p + 1)) 1 (K + (p + 1) + 1) _ _ (X * 10 ^ p * 2) _ rfl m1_6.nz two.nz (r_ _) o2).mono ?_); rintro e w7 ⟨A7, n7, c7, rfl, m2, b7⟩; have hx_7 := hx_6.below b7; have one_7 := one_6.below b7; have tp_7 := tp_6.below b7; have m1_7 := m1_6.below b7; have two_7 := two.below b7; have bx_7 := bx_6.below b7 bx_6.lt; have F7 := below_then F6 (Nat.le_refl _) b7)
      | (go_at_call 26; (with_reducible refine (radd_n _ _ _ _ _ _ (K + (p + 1) + 1) 1 (K + (p + 1) + 1 + 1) _ _ V _ HV.out m2.nz one_7.nz (r_ _) o6 o3).mono ?_); rintro e w8 ⟨A8, n8, c8, rfl, vv, b8⟩; have hx_8 := hx_7.below b8; have one_8 := one_7.below b8; have tp_8 := tp_7.below b8; have m1_8 := m1_7.below b8; have two_8 := two_7.below b8; have m2_8 := m2.below b8; have bx_8 := bx_7.below b8 bx_7.lt; have F8 := below_then F7 (Nat.le_refl _) b8)
      | fail)
  have bx_u8 := bx_8.cell0
  have bx_v8 := bx_8.cell1
  have bx_w8 := bx_8.cell2
  go_wp2_with fail
  refine (rof_n 2 2 1 _ rfl (by decide) (by decide)).mono ?_
  rintro e w9 ⟨A9, n9, c9, rfl, two, b9⟩
  have hx_9 := hx_8.below b9
  have one_9 := one_8.below b9
  have vv_9 := vv.below b9
  have bx_9 := bx_8.below b9 bx_8.lt
  have F9 := below_then F8 (Nat.le_refl _) b9
  have bx_u9 := bx_9.cell0
  have bx_v9 := bx_9.cell1
  have bx_w9 := bx_9.cell2
  go_wp2_with fail
  refine (rmul_n _ _ _ _ _ _ 1 1 (1 + 1) _ _ (1 * 2) _ rfl one_9.nz two.nz (r_ _) (by omega)).mono ?_
  rintro e w10 ⟨A10, n10, c10, rfl, d2_, b10⟩
  have hx_10 := hx_9.below b10
  have one_10 := one_9.below b10
  have vv_10 := vv_9.below b10
  have two_10 := two.below b10
  have bx_10 := bx_9.below b10 bx_9.lt
  have F10 := below_then F9 (Nat.le_refl _) b10
  have bx_u10 := bx_10.cell0
  have bx_v10 := bx_10.cell1
  have bx_w10 := bx_10.cell2
  go_wp2_with fail
  refine (rdiv_n _ _ _ _ _ _ (K + (p + 1) + 1 + 1) (1 + 1) V (1 * 2) Q _ _ HQ.out rfl (by omega) vv_10.nz d2_.nz o4 (by omega)).mono ?_
  rintro e w11 ⟨A11, n11, c11, B11, m11, d11, rfl, qq, rr, b11⟩
  have hx_11 := hx_10.below b11
  have one_11 := one_10.below b11
  have vv_11 := vv_10.below b11
  have two_11 := two_10.below b11
  have d2__11 := d2_.below b11
  have bx_11 := bx_10.below b11 bx_10.lt
  have F11 := below_then F10 (Nat.le_refl _) b11
  have bx_u11 := bx_11.cell0
  have bx_v11 := bx_11.cell1
  have bx_w11 := bx_11.cell2
  go_wp2_with fail
  refine (digits_calls _ _ _ (K + (p + 1) + 1 + 1) Q _ qq o4 hdt).mono ?_
  rintro e w12 ⟨rfl, b12⟩
  have hx_12 := hx_11.below b12
  have one_12 := one_11.below b12
  have qq_12 := qq.below b12
  have bx_12 := bx_11.below b12 bx_11.lt
  have F12 := below_then F11 (Nat.le_refl _) b12
  have bx_u12 := bx_12.cell0
  have bx_v12 := bx_12.cell1
  have bx_w12 := bx_12.cell2
  have q0 := ny_pos qq_12
  have q1 : 0 < n11 := by have := HQ0.out; omega
  clear q0
  have HC := hide hS2
  go_wp2_with fail
  go_loop [11] (fun sv => ∃ i : Nat, i + (dtx Q).length ≤ max (p + 1) (dtx Q).length ∧ sv = .string (bs (List.replicate i 48 ++ dtx Q))) (fun sv => p + 1 - strLen sv)
  case atStart => exact ⟨0, by omega, rfl⟩
  case round =>
    obtain ⟨i, hi, rfl⟩ := hrel
    have hz : (bs (List.replicate i 48 ++ dtx Q)).size = i + (dtx Q).length := by rw [bs_size, List.length_append, List.length_replicate]
    obtain ⟨N_, hN_⟩ : ∃ k, i + (dtx Q).length = k := ⟨_, rfl⟩
    have hlim : max (p + 1) (dtx Q).length ≤ S.length := by rw [← HS.out, padz, List.length_append, List.length_replicate]; omega
    have hc_ := HC.out
    rw [hN_] at hz hi
    have z1 : ¬ (9223372036854775807 < 1 + N_) := by omega
    by_cases hlt : N_ ≤ p
    · have t1 : decide ((N_ : Int) ≤ (p : Int)) = true := by simp; omega
      have HZ := hide (show (⟨#[48]⟩ : ByteArray) ++ bs (List.replicate i 48 ++ dtx Q) = bs (List.replicate (i + 1) 48 ++ dtx Q) by rw [show (⟨#[48]⟩ : ByteArray) = bs [48] from rfl, bs_append]; rfl)
      have HN := hide hN_
      clear hN_ hlim hc_ hi
      go_wp2_with fail
      go_round
      case rel => exact ⟨i + 1, by have := HN.out; omega, by rw [HZ.out]⟩
      case measure =>
        rw [HZ.out]
        simp only [strLen, bs_size, List.length_append, List.length_replicate]
        have := HN.out
        omega
    · have HE := hide (show List.replicate i 48 ++ dtx Q = S by rw [← HS.out, padz]; congr 2; omega)
      have hSN : S.length = N_ := by rw [← HE.out, List.length_append, List.length_replicate]; exact hN_
      have t1 : decide ((N_ : Int) ≤ (p : Int)) = false := by simp; omega
      rw [HE.out] at hz ⊢
      have hN0 : p + 1 ≤ N_ := by omega
      have hN1 : N_ ≤ 1000000 := by omega
      have HSN := hide hSN
      clear hN_ hlim hc_ hi hSN hlt
      have HB := hide (show (⟨#[45]⟩ : ByteArray) ++ ((bs S).extract 0 (N_ - p) ++ (⟨#[46]⟩ : ByteArray) ++ (bs S).extract (N_ - p) N_) = bs L by
        rw [HL.out, bs_cut0 S _ (by have := HSN.out; omega), bs_cut S _ _ HSN.out.symm, show (⟨#[46]⟩ : ByteArray) = bs [46] from rfl, show (⟨#[45]⟩ : ByteArray) = bs [45] from rfl, HSN.out]
        simp only [bs_append]
        simp)
      go_wp2_with fail
      go_quiet (fail)
      go_wp2
      go_ret2
      exact ⟨by rw [← HB.out]; rfl, below_drewN F12 _⟩
end Go.Proofs.YtjpchbcenbjibaaGreatDoor
