/-
  A quotient rounded to some bits.
-/
import Derived.Test.YtnddhohjfjlaiaaGreatDoorKB
namespace Go.Proofs.YtnddhohjfjlaiaaGreatDoor
open Go.RowKit
set_option linter.unusedVariables false
set_option linter.unusedSimpArgs false

set_option maxHeartbeats 8000000 in
theorem round_q (A B : Option Addr) (n m c d : Nat) (N D k : Nat) (up : Bool) (w : World) (h : Rd w A n c (dg N)) (h2 : Rd w B m d (dg D)) (hN : 0 < N) (hD : 0 < D) (hk : 1 ≤ k) (hk2 : k ≤ 4096) (hn : n ≤ 4000) (hm : m ≤ 4000) :
    Calls Tryz.prog 58 #[.slice A n c, .slice B m d, .int .i64 (k : Int), .bool up] w fun e w' => ∃ A1 n1 c1, e = .returned (.tuple #[.slice A1 n1 c1, .int .i64 (rex N D k)]) ∧ Rd w' A1 n1 c1 (dg (if up = true then rhi N D k else rlo N D k)) ∧ Below w.heap.size w w' := by
  have hNp : N < pw n := by have := rd_lt h (Nat.le_refl n); rwa [val_dg] at this
  have hDp : D < pw m := by have := rd_lt h2 (Nat.le_refl m); rwa [val_dg] at this
  obtain ⟨bN, hbN⟩ : ∃ x, bl N = x := ⟨_, rfl⟩
  obtain ⟨bD, hbD⟩ : ∃ x, bl D = x := ⟨_, rfl⟩
  have hb1 : bN ≤ 128000 := by rw [← hbN]; have := bl_iff.2 (show N < 2 ^ (32 * n) by rw [← pw_pow]; exact hNp); omega
  have hb2 : bD ≤ 128000 := by rw [← hbD]; have := bl_iff.2 (show D < 2 ^ (32 * m) by rw [← pw_pow]; exact hDp); omega
  have hx : ex0 N D k = (bN : Int) - (bD : Int) - (k : Int) := by unfold ex0; rw [hbN, hbD]
  have hw1 : IntKind.i64.wrap ((bN : Int) - (bD : Int)) = (bN : Int) - (bD : Int) := IntWalk.i64_in _ (by omega)
  have hw2 : IntKind.i64.wrap ((bN : Int) - (bD : Int) - (k : Int)) = (bN : Int) - (bD : Int) - (k : Int) := IntWalk.i64_in _ (by omega)
  have HBN := hide (show (0 < N ∧ 1 ≤ k) ∧ 0 < D ∧ N < pw n ∧ D < pw m from ⟨⟨hN, hk⟩, hD, hNp, hDp⟩)
  have HB1 := hide hbN
  have HB2 := hide hbD
  have HX0 := hide (And.intro hx (show -140000 ≤ ex0 N D k ∧ ex0 N D k ≤ 140000 by omega))
  clear hNp hDp hbN hbD hx hN hD
  go_enter Tryz.func58, Tryz.ntmps58
  go_wp2_with fail
  refine (rbits_bl _ _ _ _ _ N bN (val_dg _) HB1.out h (by omega)).mono ?_
  rintro e_ w1 ⟨rfl, b1⟩
  have h_1 := h.below b1
  have h2_1 := h2.below b1
  go_wp2_with fail
  refine (rbits_bl _ _ _ _ _ D bD (val_dg _) HB2.out h2_1 (by omega)).mono ?_
  rintro e_ w2 ⟨rfl, b2⟩
  have h_2 := h_1.below b2
  have h2_2 := h2_1.below b2
  have F2 := below_then b1 (Nat.le_refl _) b2
  go_wp2_with fail
  go_loopw [10] (fun ev wr => ∃ E : Int, ev = .int .i64 E ∧ Rd wr A n c (dg N) ∧ Rd wr B m d (dg D) ∧ Below w.heap.size w wr ∧ Hid ((-140000 ≤ ex0 N D k ∧ ex0 N D k ≤ 140000) ∧ (E = ex0 N D k ∨ (E = ex0 N D k + 1 ∧ k < bl (scn N D (ex0 N D k)))))) (fun ev _ => (ex0 N D k + 2 - intOf ev).toNat)
  case atStart => exact ⟨_, rfl, h_2, h2_2, F2, hide ⟨HX0.out.2, Or.inl HX0.out.1.symm⟩⟩
  case round =>
    obtain ⟨E, rfl, k1, k2, F, HRel⟩ := hrel
    clear hw1 hw2 hb1 hb2
    rcases Int.lt_or_le 0 E with hE | hE
    · obtain ⟨j, hEj⟩ : ∃ j : Nat, E = (j : Int) := ⟨E.toNat, by omega⟩
      have hj : j ≤ 140001 := by have := HRel.out; omega
      obtain ⟨L, hL⟩ : ∃ L, (dg (D * 2 ^ j)).length = L := ⟨_, rfl⟩
      have hLk : L ≤ 8500 := by rw [← hL]; have := shl_len (j := 4500) HBN.out.2.2.2 (show j < 32 * 4500 by omega); omega
      obtain ⟨Q, hQ⟩ : ∃ Q, N / (D * 2 ^ j) = Q := ⟨_, rfl⟩
      obtain ⟨R, hR⟩ : ∃ R, N % (D * 2 ^ j) = R := ⟨_, rfl⟩
      obtain ⟨LQ, hLQ⟩ : ∃ L, (dg Q).length = L := ⟨_, rfl⟩
      obtain ⟨LR, hLR⟩ : ∃ L, (dg R).length = L := ⟨_, rfl⟩
      have hsn : scn N D E = Q := by rw [← hQ]; unfold scn; rw [if_pos (by omega)]; congr 3; omega
      have hsr : scr N D E = R := by rw [← hR]; unfold scr; rw [if_pos (by omega)]; congr 3; omega
      have HL := hide hL
      have HQ2 := hide (show (dg (N / (D * 2 ^ j))).length = LQ by rw [hQ]; exact hLQ)
      have HR2 := hide (show (dg (N % (D * 2 ^ j))).length = LR by rw [hR]; exact hLR)
      have HY := hide (show 0 < D * 2 ^ j by have := HBN.out.2.1; have := Nat.two_pow_pos j; first | exact HBN.out.2.1 | exact Nat.mul_pos HBN.out.2.1 (Nat.two_pow_pos j))
      have HS := hide (And.intro hsn hsr)
      have HT := hide (And.intro hQ hR)
      have HLR := hide hLR
      have HLQ := hide hLQ
      have HE := hide (show E = (j : Int) from hEj)
      have HZ := hide (show E = (j : Int) by omega)
      have d0 : decide (0 < E) = true := by simp; omega
      have hlq : LQ ≤ 1000000 := by
        have h1 : Q ≤ N := by rw [← hQ]; exact Nat.div_le_self _ _
        rw [← hLQ]
        have := dg_le (Nat.lt_of_le_of_lt h1 HBN.out.2.2.1); omega
      have he1 : -200000 ≤ E := by have := HRel.out; omega
      have he2 : E ≤ 200000 := by have := HRel.out; omega
      clear hL hsn hsr hQ hR hLR hLQ hEj
      by_cases hc : k < bl Q
      · have d1 : decide ((k : Int) < ((bl Q : Nat) : Int)) = true := by simp; omega
        have HC := hide hc
        have d2 : decide (k < bl Q) = true := by simp; omega
        go_wp2_with fail
        refine (rShl_L _ _ _ _ _ j _ L _ HZ.out (by rw [val_dg]) HL.out k2 (by omega) (by omega)).mono ?_
        rintro e_ w3 ⟨A3, c3, rfl, r3, b3⟩
        have k1a := k1.below b3
        have k2a := k2.below b3
        have F3 := below_then F (Nat.le_refl _) b3
        go_wp2_with fail
        refine (rdiv_L _ _ _ _ _ _ _ _ _ _ _ LQ LR (val_dg _) (val_dg _) HQ2.out HR2.out HY.out k1a r3 (by omega) (by omega)).mono ?_
        rintro e_ w4 ⟨A4, c4, B4, d4, rfl, r4, r5, b4⟩
        rw [HT.out.1] at r4
        rw [HT.out.2] at r5
        have k1b := k1a.below b4
        have k2b := k2a.below b4
        have F4 := below_then F3 (Nat.le_refl _) b4
        go_wp2_with fail
        refine (rbits_bl _ _ _ _ _ Q _ (val_dg _) rfl r4 (by omega)).mono ?_
        rintro e_ w5 ⟨rfl, b5⟩
        have k1c := k1b.below b5
        have k2c := k2b.below b5
        have r4c := r4.below b5
        have F5 := below_then F4 (Nat.le_refl _) b5
        go_wp2
        go_roundw
        case rel =>
          have h6 := HRel.out
          have h7 : E = ex0 N D k := by
            rcases h6.2 with h7 | h7
            · exact h7
            · exfalso
              have h8 := (rex_bd HBN.out.1.2 HBN.out.1.1 HBN.out.2.1).2
              have h9 : rex N D k = E := by unfold rex; rw [if_pos h7.2, h7.1]
              rw [h9, HS.out.1] at h8
              have := bl_iff.2 h8
              have := HC.out
              omega
          exact ⟨E + 1, rfl, k1c, k2c, F5, hide ⟨by omega, Or.inr ⟨by rw [h7], by rw [← h7, HS.out.1]; exact HC.out⟩⟩⟩
        case measure => simp only [intOf]; have := HRel.out; omega
      · have d1 : decide ((k : Int) < ((bl Q : Nat) : Int)) = false := by simp; omega
        have hrx : rex N D k = E := by
          have h6 := HRel.out
          have h7 := HS.out.1
          unfold rex
          rcases h6.2 with h8 | h8
          · rw [← h8, h7, if_neg hc]
          · rw [if_pos h8.2, h8.1]
        have HX := hide hrx
        have d2 : decide (k < bl Q) = false := by simp; omega
        clear hrx
        cases up
        · have HV := hide (show rlo N D k = Q by unfold rlo; rw [HX.out, HS.out.1])
          go_wp2_with fail
          refine (rShl_L _ _ _ _ _ j _ L _ HZ.out (by rw [val_dg]) HL.out k2 (by omega) (by omega)).mono ?_
          rintro e_ w3 ⟨A3, c3, rfl, r3, b3⟩
          have k1a := k1.below b3
          have k2a := k2.below b3
          have F3 := below_then F (Nat.le_refl _) b3
          go_wp2_with fail
          refine (rdiv_L _ _ _ _ _ _ _ _ _ _ _ LQ LR (val_dg _) (val_dg _) HQ2.out HR2.out HY.out k1a r3 (by omega) (by omega)).mono ?_
          rintro e_ w4 ⟨A4, c4, B4, d4, rfl, r4, r5, b4⟩
          rw [HT.out.1] at r4
          rw [HT.out.2] at r5
          have k1b := k1a.below b4
          have k2b := k2a.below b4
          have F4 := below_then F3 (Nat.le_refl _) b4
          go_wp2_with fail
          refine (rbits_bl _ _ _ _ _ Q _ (val_dg _) rfl r4 (by omega)).mono ?_
          rintro e_ w5 ⟨rfl, b5⟩
          have k1c := k1b.below b5
          have k2c := k2b.below b5
          have r4c := r4.below b5
          have F5 := below_then F4 (Nat.le_refl _) b5
          go_wp2_with fail
          go_ret2
          exact ⟨A4, LQ, c4, by rw [HX.out]; rfl, by rw [HV.out]; exact r4c, F5⟩
        · by_cases hz : LR = 0
          · have e1 : decide ((0 : Int) < ((LR : Nat) : Int)) = false := by simp; omega
            have HV := hide (show rhi N D k = Q by unfold rhi; rw [HX.out, HS.out.1, HS.out.2, if_pos (dg_nil_iff.1 (List.eq_nil_of_length_eq_zero (HLR.out.trans hz)))])
            have e2 : decide (0 < LR) = false := by simp; omega
            go_wp2_with fail
            refine (rShl_L _ _ _ _ _ j _ L _ HZ.out (by rw [val_dg]) HL.out k2 (by omega) (by omega)).mono ?_
            rintro e_ w3 ⟨A3, c3, rfl, r3, b3⟩
            have k1a := k1.below b3
            have k2a := k2.below b3
            have F3 := below_then F (Nat.le_refl _) b3
            go_wp2_with fail
            refine (rdiv_L _ _ _ _ _ _ _ _ _ _ _ LQ LR (val_dg _) (val_dg _) HQ2.out HR2.out HY.out k1a r3 (by omega) (by omega)).mono ?_
            rintro e_ w4 ⟨A4, c4, B4, d4, rfl, r4, r5, b4⟩
            rw [HT.out.1] at r4
            rw [HT.out.2] at r5
            have k1b := k1a.below b4
            have k2b := k2a.below b4
            have F4 := below_then F3 (Nat.le_refl _) b4
            go_wp2_with fail
            refine (rbits_bl _ _ _ _ _ Q _ (val_dg _) rfl r4 (by omega)).mono ?_
            rintro e_ w5 ⟨rfl, b5⟩
            have k1c := k1b.below b5
            have k2c := k2b.below b5
            have r4c := r4.below b5
            have F5 := below_then F4 (Nat.le_refl _) b5
            go_wp2_with fail
            go_ret2
            exact ⟨A4, LQ, c4, by rw [HX.out]; rfl, by rw [HV.out]; exact r4c, F5⟩
          · have e1 : decide ((0 : Int) < ((LR : Nat) : Int)) = true := by simp; omega
            have HV := hide (show rhi N D k = Q + 1 by unfold rhi; rw [HX.out, HS.out.1, HS.out.2, if_neg (fun hh => hz (by rw [← HLR.out, hh]; rfl))])
            have e2 : decide (0 < LR) = true := by simp; omega
            go_wp2_with fail
            refine (rShl_L _ _ _ _ _ j _ L _ HZ.out (by rw [val_dg]) HL.out k2 (by omega) (by omega)).mono ?_
            rintro e_ w3 ⟨A3, c3, rfl, r3, b3⟩
            have k1a := k1.below b3
            have k2a := k2.below b3
            have F3 := below_then F (Nat.le_refl _) b3
            go_wp2_with fail
            refine (rdiv_L _ _ _ _ _ _ _ _ _ _ _ LQ LR (val_dg _) (val_dg _) HQ2.out HR2.out HY.out k1a r3 (by omega) (by omega)).mono ?_
            rintro e_ w4 ⟨A4, c4, B4, d4, rfl, r4, r5, b4⟩
            rw [HT.out.1] at r4
            rw [HT.out.2] at r5
            have k1b := k1a.below b4
            have k2b := k2a.below b4
            have F4 := below_then F3 (Nat.le_refl _) b4
            go_wp2_with fail
            refine (rbits_bl _ _ _ _ _ Q _ (val_dg _) rfl r4 (by omega)).mono ?_
            rintro e_ w5 ⟨rfl, b5⟩
            have k1c := k1b.below b5
            have k2c := k2b.below b5
            have r4c := r4.below b5
            have F5 := below_then F4 (Nat.le_refl _) b5
            have one := rd_one w5 1 (by omega)
            have r4d := r4c.alloc (.cells #[.int .u32 1] 57)
            have F6 := F5.alloc F5.size (.cells #[.int .u32 1] 57)
            go_wp2_with fail
            refine (radd_L _ _ _ _ _ _ _ _ _ Q 1 (Q + 1) _ (val_dg _) (by simp [val]) rfl rfl r4d one (by omega) (by omega)).mono ?_
            rintro e_ w7 ⟨A7, c7, rfl, r7, b7⟩
            have F7 := below_then F6 (Nat.le_refl _) b7
            go_wp2_with fail
            go_ret2
            exact ⟨A7, _, c7, by rw [HX.out]; rfl, by rw [HV.out]; exact r7, F7⟩
    · obtain ⟨j, hEj⟩ : ∃ j : Nat, E = -(j : Int) := ⟨(-E).toNat, by omega⟩
      have hj : j ≤ 140001 := by have := HRel.out; omega
      obtain ⟨L, hL⟩ : ∃ L, (dg (N * 2 ^ j)).length = L := ⟨_, rfl⟩
      have hLk : L ≤ 8500 := by rw [← hL]; have := shl_len (j := 4500) HBN.out.2.2.1 (show j < 32 * 4500 by omega); omega
      obtain ⟨Q, hQ⟩ : ∃ Q, N * 2 ^ j / (D) = Q := ⟨_, rfl⟩
      obtain ⟨R, hR⟩ : ∃ R, N * 2 ^ j % (D) = R := ⟨_, rfl⟩
      obtain ⟨LQ, hLQ⟩ : ∃ L, (dg Q).length = L := ⟨_, rfl⟩
      obtain ⟨LR, hLR⟩ : ∃ L, (dg R).length = L := ⟨_, rfl⟩
      have hsn : scn N D E = Q := by rw [← hQ]; unfold scn; rw [if_neg (by omega)]; congr 3; omega
      have hsr : scr N D E = R := by rw [← hR]; unfold scr; rw [if_neg (by omega)]; congr 3; omega
      have HL := hide hL
      have HQ2 := hide (show (dg (N * 2 ^ j / (D))).length = LQ by rw [hQ]; exact hLQ)
      have HR2 := hide (show (dg (N * 2 ^ j % (D))).length = LR by rw [hR]; exact hLR)
      have HY := hide (show 0 < D by have := HBN.out.2.1; have := Nat.two_pow_pos j; first | exact HBN.out.2.1 | exact Nat.mul_pos HBN.out.2.1 (Nat.two_pow_pos j))
      have HS := hide (And.intro hsn hsr)
      have HT := hide (And.intro hQ hR)
      have HLR := hide hLR
      have HLQ := hide hLQ
      have HE := hide (show E = -(j : Int) from hEj)
      have HZ := hide (show -E = (j : Int) by omega)
      have d0 : decide (0 < E) = false := by simp; omega
      have hlq : LQ ≤ 1000000 := by
        have h1 : Q ≤ N * 2 ^ j := by rw [← hQ]; exact Nat.div_le_self _ _
        rw [← hLQ]
        have := len_dg_le (lt_of_len (Nat.le_of_eq (show (dg Q).length = (dg Q).length from rfl))); have h3 := shl_len (j := 4500) HBN.out.2.2.1 (show j < 32 * 4500 by omega); have h4 := dg_le (Nat.lt_of_le_of_lt h1 (lt_of_len h3)); omega
      have he1 : -200000 ≤ E := by have := HRel.out; omega
      have he2 : E ≤ 200000 := by have := HRel.out; omega
      clear hL hsn hsr hQ hR hLR hLQ hEj
      by_cases hc : k < bl Q
      · have d1 : decide ((k : Int) < ((bl Q : Nat) : Int)) = true := by simp; omega
        have HC := hide hc
        have d2 : decide (k < bl Q) = true := by simp; omega
        go_wp2_with fail
        refine (rShl_L _ _ _ _ _ j _ L _ HZ.out (by rw [val_dg]) HL.out k1 (by omega) (by omega)).mono ?_
        rintro e_ w3 ⟨A3, c3, rfl, r3, b3⟩
        have k1a := k1.below b3
        have k2a := k2.below b3
        have F3 := below_then F (Nat.le_refl _) b3
        go_wp2_with fail
        refine (rdiv_L _ _ _ _ _ _ _ _ _ _ _ LQ LR (val_dg _) (val_dg _) HQ2.out HR2.out HY.out r3 k2a (by omega) (by omega)).mono ?_
        rintro e_ w4 ⟨A4, c4, B4, d4, rfl, r4, r5, b4⟩
        rw [HT.out.1] at r4
        rw [HT.out.2] at r5
        have k1b := k1a.below b4
        have k2b := k2a.below b4
        have F4 := below_then F3 (Nat.le_refl _) b4
        go_wp2_with fail
        refine (rbits_bl _ _ _ _ _ Q _ (val_dg _) rfl r4 (by omega)).mono ?_
        rintro e_ w5 ⟨rfl, b5⟩
        have k1c := k1b.below b5
        have k2c := k2b.below b5
        have r4c := r4.below b5
        have F5 := below_then F4 (Nat.le_refl _) b5
        go_wp2
        go_roundw
        case rel =>
          have h6 := HRel.out
          have h7 : E = ex0 N D k := by
            rcases h6.2 with h7 | h7
            · exact h7
            · exfalso
              have h8 := (rex_bd HBN.out.1.2 HBN.out.1.1 HBN.out.2.1).2
              have h9 : rex N D k = E := by unfold rex; rw [if_pos h7.2, h7.1]
              rw [h9, HS.out.1] at h8
              have := bl_iff.2 h8
              have := HC.out
              omega
          exact ⟨E + 1, rfl, k1c, k2c, F5, hide ⟨by omega, Or.inr ⟨by rw [h7], by rw [← h7, HS.out.1]; exact HC.out⟩⟩⟩
        case measure => simp only [intOf]; have := HRel.out; omega
      · have d1 : decide ((k : Int) < ((bl Q : Nat) : Int)) = false := by simp; omega
        have hrx : rex N D k = E := by
          have h6 := HRel.out
          have h7 := HS.out.1
          unfold rex
          rcases h6.2 with h8 | h8
          · rw [← h8, h7, if_neg hc]
          · rw [if_pos h8.2, h8.1]
        have HX := hide hrx
        have d2 : decide (k < bl Q) = false := by simp; omega
        clear hrx
        cases up
        · have HV := hide (show rlo N D k = Q by unfold rlo; rw [HX.out, HS.out.1])
          go_wp2_with fail
          refine (rShl_L _ _ _ _ _ j _ L _ HZ.out (by rw [val_dg]) HL.out k1 (by omega) (by omega)).mono ?_
          rintro e_ w3 ⟨A3, c3, rfl, r3, b3⟩
          have k1a := k1.below b3
          have k2a := k2.below b3
          have F3 := below_then F (Nat.le_refl _) b3
          go_wp2_with fail
          refine (rdiv_L _ _ _ _ _ _ _ _ _ _ _ LQ LR (val_dg _) (val_dg _) HQ2.out HR2.out HY.out r3 k2a (by omega) (by omega)).mono ?_
          rintro e_ w4 ⟨A4, c4, B4, d4, rfl, r4, r5, b4⟩
          rw [HT.out.1] at r4
          rw [HT.out.2] at r5
          have k1b := k1a.below b4
          have k2b := k2a.below b4
          have F4 := below_then F3 (Nat.le_refl _) b4
          go_wp2_with fail
          refine (rbits_bl _ _ _ _ _ Q _ (val_dg _) rfl r4 (by omega)).mono ?_
          rintro e_ w5 ⟨rfl, b5⟩
          have k1c := k1b.below b5
          have k2c := k2b.below b5
          have r4c := r4.below b5
          have F5 := below_then F4 (Nat.le_refl _) b5
          go_wp2_with fail
          go_ret2
          exact ⟨A4, LQ, c4, by rw [HX.out]; rfl, by rw [HV.out]; exact r4c, F5⟩
        · by_cases hz : LR = 0
          · have e1 : decide ((0 : Int) < ((LR : Nat) : Int)) = false := by simp; omega
            have HV := hide (show rhi N D k = Q by unfold rhi; rw [HX.out, HS.out.1, HS.out.2, if_pos (dg_nil_iff.1 (List.eq_nil_of_length_eq_zero (HLR.out.trans hz)))])
            have e2 : decide (0 < LR) = false := by simp; omega
            go_wp2_with fail
            refine (rShl_L _ _ _ _ _ j _ L _ HZ.out (by rw [val_dg]) HL.out k1 (by omega) (by omega)).mono ?_
            rintro e_ w3 ⟨A3, c3, rfl, r3, b3⟩
            have k1a := k1.below b3
            have k2a := k2.below b3
            have F3 := below_then F (Nat.le_refl _) b3
            go_wp2_with fail
            refine (rdiv_L _ _ _ _ _ _ _ _ _ _ _ LQ LR (val_dg _) (val_dg _) HQ2.out HR2.out HY.out r3 k2a (by omega) (by omega)).mono ?_
            rintro e_ w4 ⟨A4, c4, B4, d4, rfl, r4, r5, b4⟩
            rw [HT.out.1] at r4
            rw [HT.out.2] at r5
            have k1b := k1a.below b4
            have k2b := k2a.below b4
            have F4 := below_then F3 (Nat.le_refl _) b4
            go_wp2_with fail
            refine (rbits_bl _ _ _ _ _ Q _ (val_dg _) rfl r4 (by omega)).mono ?_
            rintro e_ w5 ⟨rfl, b5⟩
            have k1c := k1b.below b5
            have k2c := k2b.below b5
            have r4c := r4.below b5
            have F5 := below_then F4 (Nat.le_refl _) b5
            go_wp2_with fail
            go_ret2
            exact ⟨A4, LQ, c4, by rw [HX.out]; rfl, by rw [HV.out]; exact r4c, F5⟩
          · have e1 : decide ((0 : Int) < ((LR : Nat) : Int)) = true := by simp; omega
            have HV := hide (show rhi N D k = Q + 1 by unfold rhi; rw [HX.out, HS.out.1, HS.out.2, if_neg (fun hh => hz (by rw [← HLR.out, hh]; rfl))])
            have e2 : decide (0 < LR) = true := by simp; omega
            go_wp2_with fail
            refine (rShl_L _ _ _ _ _ j _ L _ HZ.out (by rw [val_dg]) HL.out k1 (by omega) (by omega)).mono ?_
            rintro e_ w3 ⟨A3, c3, rfl, r3, b3⟩
            have k1a := k1.below b3
            have k2a := k2.below b3
            have F3 := below_then F (Nat.le_refl _) b3
            go_wp2_with fail
            refine (rdiv_L _ _ _ _ _ _ _ _ _ _ _ LQ LR (val_dg _) (val_dg _) HQ2.out HR2.out HY.out r3 k2a (by omega) (by omega)).mono ?_
            rintro e_ w4 ⟨A4, c4, B4, d4, rfl, r4, r5, b4⟩
            rw [HT.out.1] at r4
            rw [HT.out.2] at r5
            have k1b := k1a.below b4
            have k2b := k2a.below b4
            have F4 := below_then F3 (Nat.le_refl _) b4
            go_wp2_with fail
            refine (rbits_bl _ _ _ _ _ Q _ (val_dg _) rfl r4 (by omega)).mono ?_
            rintro e_ w5 ⟨rfl, b5⟩
            have k1c := k1b.below b5
            have k2c := k2b.below b5
            have r4c := r4.below b5
            have F5 := below_then F4 (Nat.le_refl _) b5
            have one := rd_one w5 1 (by omega)
            have r4d := r4c.alloc (.cells #[.int .u32 1] 57)
            have F6 := F5.alloc F5.size (.cells #[.int .u32 1] 57)
            go_wp2_with fail
            refine (radd_L _ _ _ _ _ _ _ _ _ Q 1 (Q + 1) _ (val_dg _) (by simp [val]) rfl rfl r4d one (by omega) (by omega)).mono ?_
            rintro e_ w7 ⟨A7, c7, rfl, r7, b7⟩
            have F7 := below_then F6 (Nat.le_refl _) b7
            go_wp2_with fail
            go_ret2
            exact ⟨A7, _, c7, by rw [HX.out]; rfl, by rw [HV.out]; exact r7, F7⟩
end Go.Proofs.YtnddhohjfjlaiaaGreatDoor
