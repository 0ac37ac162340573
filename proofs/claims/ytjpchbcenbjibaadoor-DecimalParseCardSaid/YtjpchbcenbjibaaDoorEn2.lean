/-
  The specification's Parse, its ways.
-/
import Derived.Test.YtjpchbcenbjibaaDoorD2
namespace Go.Proofs.YtjpchbcenbjibaaDoor
open Go.RowKit
set_option linter.unusedVariables false
set_option linter.unusedSimpArgs false

set_option maxHeartbeats 1000000 in
theorem ps_neg_limit246 (l : List UInt8) (k j : Nat) (w : World) (hl : l.length ≤ 100000) (h0 : l.head? = some 45) (hk : prun (l.drop 1) = k) (hj : prun (l.drop (1 + k + 1)) = j) (hk4 : 0 + k ≤ 4000) (hk0 : k ≠ 0) (he : 1 + k ≠ l.length) (hc : l[1 + k]? = some 46) (h2 : 4000 < k + j) :
    Calls Tryd.prog 12 #[.string (bs l)] w (GP w (pparse l)) := by
  have ha : (if l.head? = some 45 then 1 else 0) = 1 := by rw [if_pos h0]
  have hpos : 0 < l.length := by rcases l with _ | ⟨c, l⟩ <;> simp at h0 ⊢
  have hs := bs_size l
  have hlt0 : 0 < (bs l).size := by omega
  have hg0 := bs_get l 0 45 45 (by rw [← h0]; exact List.head?_eq_getElem?.symm) rfl hlt0
  have ha1 : 1 ≤ l.length := hpos
  clear h0
  have hka := prun_le (l.drop 1)
  rw [hk, List.length_drop] at hka
  have hja := prun_le (l.drop (1 + k + 1))
  rw [hj, List.length_drop] at hja
  have HP := hide (pp_limit2 ha hk hj (by omega) hk0 he (.inr hc) h2)
  have HK := hide hk
  have HJ := hide hj
  have hlt : 1 + k < (bs l).size := by omega
  have hgE := fun (h : 1 + k < (bs l).size) => bs_get l (1 + k) 46 46 hc rfl h
  have HG := hide hgE
  clear hgE hc
  clear ha hk hj
  have br_1 : Sq ((w).alloc EQ0) (w.heap.size) (.bool false) (.slice none 0 0) (.slice none 0 0) := by have h_ := Sq.new (w) (.bool false) (.slice none 0 0) (.slice none 0 0); exact h_
  have F1 := (Below.refl w.heap.size w).alloc (Nat.le_refl _) EQ0
  go_enter Tryd.func12, Tryd.ntmps12
  go_wp2_with fail
  refine (run_at l 1 0 k _ _ _ rfl rfl HK.out hl ha1 hk4).mono ?_
  rintro e w2 ⟨A2, n2, c2, E2, U2, rfl, hE2, hU2, num, b2⟩
  have br_2 := br_1.below b2 br_1.lt
  have F2 := below_then F1 (Nat.le_refl _) b2
  have br_u2 := br_2.cell0
  have br_v2 := br_2.cell1
  have br_w2 := br_2.cell2
  have e0 : 0 ≤ E2 := by omega
  have e1 : E2 ≤ 1000000 := by omega
  have e2 : (E2 == 1) = false := by simp; omega
  have e3 : E2 ≠ 1 := by omega
  have e4 : decide (E2 < (l.length : Int)) = true := by simp; omega
  have hE_ : E2.toNat = 1 + k := by omega
  have hlt2 : E2.toNat < (bs l).size := by omega
  have hgF : ((bs l)[E2.toNat]'hlt2).toNat = 46 := get_at l _ _ _ hE_ hlt2 HG.out
  have HE := hide hE2
  have HU := hide hU2
  have u0 : 0 ≤ U2 := by omega
  have u1 : U2 ≤ 4000 := by omega
  clear hE2 hU2 hE_
  go_wp2_with fail
  refine (rof_n 1 1 1 _ rfl (by decide) (by decide)).mono ?_
  rintro e w3 ⟨A3, n3, c3, rfl, den, b3⟩
  have num_3 := num.below b3
  have br_3 := br_2.below b3 br_2.lt
  have F3 := below_then F2 (Nat.le_refl _) b3
  have br_u3 := br_3.cell0
  have br_v3 := br_3.cell1
  have br_w3 := br_3.cell2
  have ha2 : 1 + k + 1 ≤ l.length := by omega
  have HI := hide (show E2 + 1 = ((1 + k + 1 : Nat) : Int) by rw [HE.out]; rfl)
  have HV := hide (show U2 = ((k : Nat) : Int) by rw [HU.out]; simp)
  go_wp2_with fail
  refine (limit_at l (1 + k + 1) k j (4000 - k) _ _ _ HI.out HV.out HJ.out hl ha2 (by omega) (by omega)).mono ?_
  rintro e w4 ⟨E4, rfl, hE4, b4⟩
  have num_4 := num_3.below b4
  have den_4 := den.below b4
  have br_4 := br_3.below b4 br_3.lt
  have F4 := below_then F3 (Nat.le_refl _) b4
  have br_u4 := br_4.cell0
  have br_v4 := br_4.cell1
  have br_w4 := br_4.cell2
  have f0 : E4 < 0 := by omega
  have f1 : -1 - E4 = ((1 + k + 1 + (4000 - k) : Nat) : Int) := by omega
  have HF := hide f1
  have f2 : -1000000 ≤ E4 := by omega
  clear hE4 f1
  have br_f04 := br_4.frozen 0
  have br_f14 := br_4.frozen 1
  have br_f24 := br_4.frozen 2
  go_wp2_with fail
  refine bodyPost_ret (v := .tuple #[.agg #[.bool false, .slice none 0 0, .slice none 0 0], .int .i64 (-1 - E4), .int .i64 8]) (by simp [results, Tryd.results12, go_sem, (br_4.set0 (.bool false)).cell0, ((br_4.set0 (.bool false)).set1 (.slice none 0 0)).cell1, (((br_4.set0 (.bool false)).set1 (.slice none 0 0)).set2 (.slice none 0 0)).cell2]) rfl ((gp_end (0, 1 + k + 1 + (4000 - k), 8) _ _ (HF.out) rfl F4 (Nat.le_refl _) br_4 (cq_zero _)).to HP.out)
set_option maxHeartbeats 1000000 in
theorem ps_neg_none246 (l : List UInt8) (k j : Nat) (w : World) (hl : l.length ≤ 100000) (h0 : l.head? = some 45) (hk : prun (l.drop 1) = k) (hj : prun (l.drop (1 + k + 1)) = j) (hk4 : 0 + k ≤ 4000) (hk0 : k ≠ 0) (he : 1 + k ≠ l.length) (hc : l[1 + k]? = some 46) (h2 : j = 0) :
    Calls Tryd.prog 12 #[.string (bs l)] w (GP w (pparse l)) := by
  have ha : (if l.head? = some 45 then 1 else 0) = 1 := by rw [if_pos h0]
  have hpos : 0 < l.length := by rcases l with _ | ⟨c, l⟩ <;> simp at h0 ⊢
  have hs := bs_size l
  have hlt0 : 0 < (bs l).size := by omega
  have hg0 := bs_get l 0 45 45 (by rw [← h0]; exact List.head?_eq_getElem?.symm) rfl hlt0
  have ha1 : 1 ≤ l.length := hpos
  clear h0
  have hka := prun_le (l.drop 1)
  rw [hk, List.length_drop] at hka
  have hja := prun_le (l.drop (1 + k + 1))
  rw [hj, List.length_drop] at hja
  have HP := hide (pp_none2 ha hk hj (by omega) hk0 he (.inr hc) h2)
  have HK := hide hk
  have HJ := hide hj
  have hlt : 1 + k < (bs l).size := by omega
  have hgE := fun (h : 1 + k < (bs l).size) => bs_get l (1 + k) 46 46 hc rfl h
  have HG := hide hgE
  clear hgE hc
  clear ha hk hj
  have br_1 : Sq ((w).alloc EQ0) (w.heap.size) (.bool false) (.slice none 0 0) (.slice none 0 0) := by have h_ := Sq.new (w) (.bool false) (.slice none 0 0) (.slice none 0 0); exact h_
  have F1 := (Below.refl w.heap.size w).alloc (Nat.le_refl _) EQ0
  go_enter Tryd.func12, Tryd.ntmps12
  go_wp2_with fail
  refine (run_at l 1 0 k _ _ _ rfl rfl HK.out hl ha1 hk4).mono ?_
  rintro e w2 ⟨A2, n2, c2, E2, U2, rfl, hE2, hU2, num, b2⟩
  have br_2 := br_1.below b2 br_1.lt
  have F2 := below_then F1 (Nat.le_refl _) b2
  have br_u2 := br_2.cell0
  have br_v2 := br_2.cell1
  have br_w2 := br_2.cell2
  have e0 : 0 ≤ E2 := by omega
  have e1 : E2 ≤ 1000000 := by omega
  have e2 : (E2 == 1) = false := by simp; omega
  have e3 : E2 ≠ 1 := by omega
  have e4 : decide (E2 < (l.length : Int)) = true := by simp; omega
  have hE_ : E2.toNat = 1 + k := by omega
  have hlt2 : E2.toNat < (bs l).size := by omega
  have hgF : ((bs l)[E2.toNat]'hlt2).toNat = 46 := get_at l _ _ _ hE_ hlt2 HG.out
  have HE := hide hE2
  have HU := hide hU2
  have u0 : 0 ≤ U2 := by omega
  have u1 : U2 ≤ 4000 := by omega
  clear hE2 hU2 hE_
  go_wp2_with fail
  refine (rof_n 1 1 1 _ rfl (by decide) (by decide)).mono ?_
  rintro e w3 ⟨A3, n3, c3, rfl, den, b3⟩
  have num_3 := num.below b3
  have br_3 := br_2.below b3 br_2.lt
  have F3 := below_then F2 (Nat.le_refl _) b3
  have br_u3 := br_3.cell0
  have br_v3 := br_3.cell1
  have br_w3 := br_3.cell2
  have ha2 : 1 + k + 1 ≤ l.length := by omega
  have HI := hide (show E2 + 1 = ((1 + k + 1 : Nat) : Int) by rw [HE.out]; rfl)
  have HV := hide (show U2 = ((k : Nat) : Int) by rw [HU.out]; simp)
  subst h2
  go_wp2_with fail
  refine (run_at l (1 + k + 1) k 0 _ _ _ HI.out HV.out HJ.out hl ha2 (by omega)).mono ?_
  rintro e w4 ⟨A4, n4, c4, E4, U4, rfl, hE4, hU4, frac_, b4⟩
  have num_4 := num_3.below b4
  have den_4 := den.below b4
  have br_4 := br_3.below b4 br_3.lt
  have F4 := below_then F3 (Nat.le_refl _) b4
  have br_u4 := br_4.cell0
  have br_v4 := br_4.cell1
  have br_w4 := br_4.cell2
  have f0 : 0 ≤ E4 := by omega
  have f2 : (E4 == E2 + 1) = true := by rw [hE4, HI.out]; simp
  clear hE4 hU4
  have br_f04 := br_4.frozen 0
  have br_f14 := br_4.frozen 1
  have br_f24 := br_4.frozen 2
  go_wp2_with fail
  refine bodyPost_ret (v := .tuple #[.agg #[.bool false, .slice none 0 0, .slice none 0 0], .int .i64 (E2 + 1), .int .i64 4]) (by simp [results, Tryd.results12, go_sem, (br_4.set0 (.bool false)).cell0, ((br_4.set0 (.bool false)).set1 (.slice none 0 0)).cell1, (((br_4.set0 (.bool false)).set1 (.slice none 0 0)).set2 (.slice none 0 0)).cell2]) rfl ((gp_end (0, 1 + k + 1, 4) _ _ (HI.out) rfl F4 (Nat.le_refl _) br_4 (cq_zero _)).to HP.out)
set_option maxHeartbeats 1000000 in
theorem ps_neg_more46 (l : List UInt8) (k j : Nat) (w : World) (hl : l.length ≤ 100000) (h0 : l.head? = some 45) (hk : prun (l.drop 1) = k) (hj : prun (l.drop (1 + k + 1)) = j) (hk4 : 0 + k ≤ 4000) (hk0 : k ≠ 0) (he : 1 + k ≠ l.length) (hc : l[1 + k]? = some 46) (h2 : k + j ≤ 4000) (h3 : j ≠ 0) (h4 : 1 + k + 1 + j ≠ l.length) :
    Calls Tryd.prog 12 #[.string (bs l)] w (GP w (pparse l)) := by
  have ha : (if l.head? = some 45 then 1 else 0) = 1 := by rw [if_pos h0]
  have hpos : 0 < l.length := by rcases l with _ | ⟨c, l⟩ <;> simp at h0 ⊢
  have hs := bs_size l
  have hlt0 : 0 < (bs l).size := by omega
  have hg0 := bs_get l 0 45 45 (by rw [← h0]; exact List.head?_eq_getElem?.symm) rfl hlt0
  have ha1 : 1 ≤ l.length := hpos
  clear h0
  have hka := prun_le (l.drop 1)
  rw [hk, List.length_drop] at hka
  have hja := prun_le (l.drop (1 + k + 1))
  rw [hj, List.length_drop] at hja
  have HP := hide (pp_more ha hk hj (by omega) hk0 he (.inr hc) h2 h3 h4)
  have HK := hide hk
  have HJ := hide hj
  have hlt : 1 + k < (bs l).size := by omega
  have hgE := fun (h : 1 + k < (bs l).size) => bs_get l (1 + k) 46 46 hc rfl h
  have HG := hide hgE
  clear hgE hc
  clear ha hk hj
  have br_1 : Sq ((w).alloc EQ0) (w.heap.size) (.bool false) (.slice none 0 0) (.slice none 0 0) := by have h_ := Sq.new (w) (.bool false) (.slice none 0 0) (.slice none 0 0); exact h_
  have F1 := (Below.refl w.heap.size w).alloc (Nat.le_refl _) EQ0
  go_enter Tryd.func12, Tryd.ntmps12
  go_wp2_with fail
  refine (run_at l 1 0 k _ _ _ rfl rfl HK.out hl ha1 hk4).mono ?_
  rintro e w2 ⟨A2, n2, c2, E2, U2, rfl, hE2, hU2, num, b2⟩
  have br_2 := br_1.below b2 br_1.lt
  have F2 := below_then F1 (Nat.le_refl _) b2
  have br_u2 := br_2.cell0
  have br_v2 := br_2.cell1
  have br_w2 := br_2.cell2
  have e0 : 0 ≤ E2 := by omega
  have e1 : E2 ≤ 1000000 := by omega
  have e2 : (E2 == 1) = false := by simp; omega
  have e3 : E2 ≠ 1 := by omega
  have e4 : decide (E2 < (l.length : Int)) = true := by simp; omega
  have hE_ : E2.toNat = 1 + k := by omega
  have hlt2 : E2.toNat < (bs l).size := by omega
  have hgF : ((bs l)[E2.toNat]'hlt2).toNat = 46 := get_at l _ _ _ hE_ hlt2 HG.out
  have HE := hide hE2
  have HU := hide hU2
  have u0 : 0 ≤ U2 := by omega
  have u1 : U2 ≤ 4000 := by omega
  clear hE2 hU2 hE_
  go_wp2_with fail
  refine (rof_n 1 1 1 _ rfl (by decide) (by decide)).mono ?_
  rintro e w3 ⟨A3, n3, c3, rfl, den, b3⟩
  have num_3 := num.below b3
  have br_3 := br_2.below b3 br_2.lt
  have F3 := below_then F2 (Nat.le_refl _) b3
  have br_u3 := br_3.cell0
  have br_v3 := br_3.cell1
  have br_w3 := br_3.cell2
  have ha2 : 1 + k + 1 ≤ l.length := by omega
  have HI := hide (show E2 + 1 = ((1 + k + 1 : Nat) : Int) by rw [HE.out]; rfl)
  have HV := hide (show U2 = ((k : Nat) : Int) by rw [HU.out]; simp)
  go_wp2_with fail
  refine (run_at l (1 + k + 1) k j _ _ _ HI.out HV.out HJ.out hl ha2 h2).mono ?_
  rintro e w4 ⟨A4, n4, c4, E4, U4, rfl, hE4, hU4, frac_, b4⟩
  have num_4 := num_3.below b4
  have den_4 := den.below b4
  have br_4 := br_3.below b4 br_3.lt
  have F4 := below_then F3 (Nat.le_refl _) b4
  have br_u4 := br_4.cell0
  have br_v4 := br_4.cell1
  have br_w4 := br_4.cell2
  have f0 : 0 ≤ E4 := by omega
  have i_ := HI.out
  have f2 : (E4 == E2 + 1) = false := by simp; omega
  clear i_
  have f4 : decide (E4 < (l.length : Int)) = true := by simp; omega
  have HF := hide hE4
  have HW := hide hU4
  have f5 : 0 ≤ U4 := by omega
  have f6 : U4 ≤ 4000 := by omega
  clear hE4 hU4
  have HS := hide (show U4 - U2 = ((j : Nat) : Int) by rw [HW.out, HV.out]; omega)
  go_wp2_with fail
  refine (power_at _ j _ HS.out (by omega)).mono ?_
  rintro e w5 ⟨A5, n5, c5, rfl, pw_, b5⟩
  have num_5 := num_4.below b5
  have den_5 := den_4.below b5
  have frac__5 := frac_.below b5
  have br_5 := br_4.below b5 br_4.lt
  have F5 := below_then F4 (Nat.le_refl _) b5
  have br_u5 := br_5.cell0
  have br_v5 := br_5.cell1
  have br_w5 := br_5.cell2
  go_wp2_with fail
  refine (rmul_n _ _ _ _ _ _ (k + 1) (j + 1) (k + j + 2) _ _ ((dval ((l.drop 1).take k)) * 10 ^ j) _ rfl num_5.nz pw_.nz (by omega) (by omega)).mono ?_
  rintro e w6 ⟨A6, n6, c6, rfl, p1, b6⟩
  have num_6 := num_5.below b6
  have den_6 := den_5.below b6
  have frac__6 := frac__5.below b6
  have pw__6 := pw_.below b6
  have br_6 := br_5.below b6 br_5.lt
  have F6 := below_then F5 (Nat.le_refl _) b6
  have br_u6 := br_6.cell0
  have br_v6 := br_6.cell1
  have br_w6 := br_6.cell2
  go_wp2_with fail
  refine (radd_n _ _ _ _ _ _ (k + j + 2) (j + 1) (k + j + 3) _ _ ((dval ((l.drop 1).take k)) * 10 ^ j + (dval ((l.drop (1 + k + 1)).take j))) _ rfl p1.nz frac__6.nz (by omega) (by omega) (by omega)).mono ?_
  rintro e w7 ⟨A7, n7, c7, rfl, p2, b7⟩
  have num_7 := num_6.below b7
  have den_7 := den_6.below b7
  have frac__7 := frac__6.below b7
  have pw__7 := pw__6.below b7
  have p1_7 := p1.below b7
  have br_7 := br_6.below b7 br_6.lt
  have F7 := below_then F6 (Nat.le_refl _) b7
  have br_u7 := br_7.cell0
  have br_v7 := br_7.cell1
  have br_w7 := br_7.cell2
  have br_f07 := br_7.frozen 0
  have br_f17 := br_7.frozen 1
  have br_f27 := br_7.frozen 2
  go_wp2_with fail
  refine bodyPost_ret (v := .tuple #[.agg #[.bool false, .slice none 0 0, .slice none 0 0], .int .i64 (E4), .int .i64 4]) (by simp [results, Tryd.results12, go_sem, (br_7.set0 (.bool false)).cell0, ((br_7.set0 (.bool false)).set1 (.slice none 0 0)).cell1, (((br_7.set0 (.bool false)).set1 (.slice none 0 0)).set2 (.slice none 0 0)).cell2]) rfl ((gp_end (0, 1 + k + 1 + j, 4) _ _ (HF.out) rfl F7 (Nat.le_refl _) br_7 (cq_zero _)).to HP.out)
end Go.Proofs.YtjpchbcenbjibaaDoor
