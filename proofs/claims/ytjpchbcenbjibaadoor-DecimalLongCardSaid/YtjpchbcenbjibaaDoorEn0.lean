/-
  The specification's Parse, its ways.
-/
import Derived.Test.YtjpchbcenbjibaaDoorD2
namespace Go.Proofs.YtjpchbcenbjibaaDoor
open Go.RowKit
set_option linter.unusedVariables false
set_option linter.unusedSimpArgs false

set_option maxHeartbeats 1000000 in
theorem ps_neg_limit (l : List UInt8) (k : Nat) (w : World) (hl : l.length ≤ 100000) (h0 : l.head? = some 45) (hk : prun (l.drop 1) = k) (h4 : 4000 < k) :
    Calls Tryd.prog 12 #[.string (bs l)] w (GP w (pparse l)) := by
  have ha : (if l.head? = some 45 then 1 else 0) = 1 := by rw [if_pos h0]
  have hpos : 0 < l.length := by rcases l with _ | ⟨c, l⟩ <;> simp at h0 ⊢
  have hs := bs_size l
  have hlt0 : 0 < (bs l).size := by omega
  have hg0 := bs_get l 0 45 45 (by rw [← h0]; exact List.head?_eq_getElem?.symm) rfl hlt0
  have ha1 : 1 ≤ l.length := hpos
  clear h0
  have hka := prun_le (l.drop 1)
  rw [hk, List.length_drop] at hka
  have HP := hide (pp_limit ha hk h4)
  have HK := hide hk
  clear ha hk
  have br_1 : Sq ((w).alloc EQ0) (w.heap.size) (.bool false) (.slice none 0 0) (.slice none 0 0) := by have h_ := Sq.new (w) (.bool false) (.slice none 0 0) (.slice none 0 0); exact h_
  have F1 := (Below.refl w.heap.size w).alloc (Nat.le_refl _) EQ0
  go_enter Tryd.func12, Tryd.ntmps12
  go_wp2_with fail
  refine (limit_at l 1 0 k 4000 _ _ _ rfl rfl HK.out hl ha1 rfl h4).mono ?_
  rintro e w2 ⟨E2, rfl, hE2, b2⟩
  have br_2 := br_1.below b2 br_1.lt
  have F2 := below_then F1 (Nat.le_refl _) b2
  have br_u2 := br_2.cell0
  have br_v2 := br_2.cell1
  have br_w2 := br_2.cell2
  have e0 : E2 < 0 := by omega
  have e1 : -1 - E2 = ((1 + 4000 : Nat) : Int) := by omega
  have HE := hide e1
  have e2 : -1000000 ≤ E2 := by omega
  clear hE2 e1
  have br_f02 := br_2.frozen 0
  have br_f12 := br_2.frozen 1
  have br_f22 := br_2.frozen 2
  go_wp2_with fail
  refine bodyPost_ret (v := .tuple #[.agg #[.bool false, .slice none 0 0, .slice none 0 0], .int .i64 (-1 - E2), .int .i64 8]) (by simp [results, Tryd.results12, go_sem, (br_2.set0 (.bool false)).cell0, ((br_2.set0 (.bool false)).set1 (.slice none 0 0)).cell1, (((br_2.set0 (.bool false)).set1 (.slice none 0 0)).set2 (.slice none 0 0)).cell2]) rfl ((gp_end (0, 1 + 4000, 8) _ _ (HE.out) rfl F2 (Nat.le_refl _) br_2 (cq_zero _)).to HP.out)
set_option maxHeartbeats 1000000 in
theorem ps_neg_none (l : List UInt8) (k : Nat) (w : World) (hl : l.length ≤ 100000) (h0 : l.head? = some 45) (hk : prun (l.drop 1) = k) (hk0 : k = 0) :
    Calls Tryd.prog 12 #[.string (bs l)] w (GP w (pparse l)) := by
  have ha : (if l.head? = some 45 then 1 else 0) = 1 := by rw [if_pos h0]
  have hpos : 0 < l.length := by rcases l with _ | ⟨c, l⟩ <;> simp at h0 ⊢
  have hs := bs_size l
  have hlt0 : 0 < (bs l).size := by omega
  have hg0 := bs_get l 0 45 45 (by rw [← h0]; exact List.head?_eq_getElem?.symm) rfl hlt0
  have ha1 : 1 ≤ l.length := hpos
  clear h0
  have hka := prun_le (l.drop 1)
  rw [hk, List.length_drop] at hka
  have HP := hide (pp_none ha hk hk0)
  have HK := hide hk
  clear ha hk
  subst hk0
  have hk4 : 0 + 0 ≤ 4000 := by omega
  have br_1 : Sq ((w).alloc EQ0) (w.heap.size) (.bool false) (.slice none 0 0) (.slice none 0 0) := by have h_ := Sq.new (w) (.bool false) (.slice none 0 0) (.slice none 0 0); exact h_
  have F1 := (Below.refl w.heap.size w).alloc (Nat.le_refl _) EQ0
  go_enter Tryd.func12, Tryd.ntmps12
  go_wp2_with fail
  refine (run_at l 1 0 0 _ _ _ rfl rfl HK.out hl ha1 hk4).mono ?_
  rintro e w2 ⟨A2, n2, c2, E2, U2, rfl, hE2, hU2, num, b2⟩
  have br_2 := br_1.below b2 br_1.lt
  have F2 := below_then F1 (Nat.le_refl _) b2
  have br_u2 := br_2.cell0
  have br_v2 := br_2.cell1
  have br_w2 := br_2.cell2
  have e0 : 0 ≤ E2 := by omega
  have e1 : E2 ≤ 1000000 := by omega
  have e2 : (E2 == 1) = true := by rw [hE2]; rfl
  clear hE2 hU2
  have br_f02 := br_2.frozen 0
  have br_f12 := br_2.frozen 1
  have br_f22 := br_2.frozen 2
  go_wp2_with fail
  refine bodyPost_ret (v := .tuple #[.agg #[.bool false, .slice none 0 0, .slice none 0 0], .int .i64 (1), .int .i64 4]) (by simp [results, Tryd.results12, go_sem, (br_2.set0 (.bool false)).cell0, ((br_2.set0 (.bool false)).set1 (.slice none 0 0)).cell1, (((br_2.set0 (.bool false)).set1 (.slice none 0 0)).set2 (.slice none 0 0)).cell2]) rfl ((gp_end (0, 1, 4) _ _ (rfl) rfl F2 (Nat.le_refl _) br_2 (cq_zero _)).to HP.out)
set_option maxHeartbeats 1000000 in
theorem ps_neg_int (l : List UInt8) (k : Nat) (w : World) (hl : l.length ≤ 100000) (h0 : l.head? = some 45) (hk : prun (l.drop 1) = k) (hk4 : 0 + k ≤ 4000) (hk0 : k ≠ 0) (he : 1 + k = l.length) :
    Calls Tryd.prog 12 #[.string (bs l)] w (GP w (pparse l)) := by
  have ha : (if l.head? = some 45 then 1 else 0) = 1 := by rw [if_pos h0]
  have hpos : 0 < l.length := by rcases l with _ | ⟨c, l⟩ <;> simp at h0 ⊢
  have hs := bs_size l
  have hlt0 : 0 < (bs l).size := by omega
  have hg0 := bs_get l 0 45 45 (by rw [← h0]; exact List.head?_eq_getElem?.symm) rfl hlt0
  have ha1 : 1 ≤ l.length := hpos
  clear h0
  have hka := prun_le (l.drop 1)
  rw [hk, List.length_drop] at hka
  have HP := hide (pp_int ha hk (by omega) hk0 he)
  have HK := hide hk
  clear ha hk
  have br_1 : Sq ((w).alloc EQ0) (w.heap.size) (.bool false) (.slice none 0 0) (.slice none 0 0) := by have h_ := Sq.new (w) (.bool false) (.slice none 0 0) (.slice none 0 0); exact h_
  have F1 := (Below.refl w.heap.size w).alloc (Nat.le_refl _) EQ0
  go_enter Tryd.func12, Tryd.ntmps12
  go_wp2_with fail
  refine (run_at l 1 0 k _ _ _ rfl rfl HK.out hl ha1 hk4).mono ?_
  rintro e w2 ⟨A2, n2, c2, E2, U2, rfl, hE2, hU2, num, b2⟩
  have br_2 := br_1.below b2 br_1.lt
  have F2 := below_then F1 (Nat.le_refl _) b2
  have br_u2 := br_2.cell0
  have br_v2 := br_2.cell1
  have br_w2 := br_2.cell2
  have e0 : 0 ≤ E2 := by omega
  have e1 : E2 ≤ 1000000 := by omega
  have e2 : (E2 == 1) = false := by simp; omega
  have e3 : E2 ≠ 1 := by omega
  have e4 : decide (E2 < (l.length : Int)) = false := by simp; omega
  clear hE2 hU2
  go_wp2_with fail
  refine (rof_n 1 1 1 _ rfl (by decide) (by decide)).mono ?_
  rintro e w3 ⟨A3, n3, c3, rfl, den, b3⟩
  have num_3 := num.below b3
  have br_3 := br_2.below b3 br_2.lt
  have F3 := below_then F2 (Nat.le_refl _) b3
  have br_u3 := br_3.cell0
  have br_v3 := br_3.cell1
  have br_w3 := br_3.cell2
  have hKN : k + 1 ≤ 16384 := by omega
  have hKD : 1 ≤ 16384 := by omega
  have HP2 := hide (show pparse l = (sgnq true (((dval ((l.drop 1).take k)) : Nat) / (1 : Nat)), 0, 0) by rw [HP.out, show ((1 : Nat) : Rat) = 1 from rfl, Rat.div_def, show (1 : Rat)⁻¹ = 1 by decide +kernel, Rat.mul_one]; rfl)
  have hn1 : (iv true (dg (dval ((l.drop 1).take k)))).natAbs < pw (k + 1) := by rw [iv_abs, val_dg]; exact num_3.lt
  have hd1 : (iv false (dg 1)).natAbs < pw 1 := by rw [iv_abs, val_dg]; exact den.lt
  have hd0 : iv false (dg 1) ≠ 0 := by have := iv_abs false (dg 1); rw [val_dg] at this; omega
  go_wp2_with fail
  refine (rmake_int true _ _ _ _ _ (num_3.iz true) (Nat.le_trans num_3.1 (by omega))).mono ?_
  rintro e w4 ⟨s4, A4, n4, c4, rfl, z1, b4⟩
  have num_4 := num_3.below b4
  have den_4 := den.below b4
  have br_4 := br_3.below b4 br_3.lt
  have F4 := below_then F3 (Nat.le_refl _) b4
  have br_u4 := br_4.cell0
  have br_v4 := br_4.cell1
  have br_w4 := br_4.cell2
  have lz1 := Nat.le_trans (z1.len hn1) hKN
  go_wp2_with fail
  refine (rmake_int false _ _ _ _ _ (den_4.iz false) (Nat.le_trans den_4.1 (by omega))).mono ?_
  rintro e w5 ⟨s5, A5, n5, c5, rfl, z2, b5⟩
  have num_5 := num_4.below b5
  have den_5 := den_4.below b5
  have z1_5 := z1.below b5
  have br_5 := br_4.below b5 br_4.lt
  have F5 := below_then F4 (Nat.le_refl _) b5
  have br_u5 := br_5.cell0
  have br_v5 := br_5.cell1
  have br_w5 := br_5.cell2
  have lz2 := Nat.le_trans (z2.len hd1) hKD
  go_wp2_with fail
  refine (rmake_q _ _ _ _ _ _ _ _ _ _ _ _ (make_value true (dval ((l.drop 1).take k)) 1) hd0 z1_5.iz z2.iz lz1 lz2).mono ?_
  rintro e w6 ⟨s6, A6, n6, c6, B6, m6, d6, rfl, q, b6⟩
  have num_6 := num_5.below b6
  have den_6 := den_5.below b6
  have z1_6 := z1_5.below b6
  have z2_6 := z2.below b6
  have br_6 := br_5.below b6 br_5.lt
  have F6 := below_then F5 (Nat.le_refl _) b6
  have br_u6 := br_6.cell0
  have br_v6 := br_6.cell1
  have br_w6 := br_6.cell2
  have br_f06 := br_6.frozen 0
  have br_f16 := br_6.frozen 1
  have br_f26 := br_6.frozen 2
  have lt_ := br_6.lt
  have ne_ := Nat.ne_of_lt br_6.lt
  go_wp2_with fail
  have z_ := (br_6.stor (u0 := .bool s6) (u1 := .slice A6 n6 c6) (u2 := .slice B6 m6 d6)).alloc (EQ s6 A6 n6 c6 B6 m6 d6)
  refine bodyPost_ret (v := .tuple #[.agg #[.bool s6, .slice A6 n6 c6, .slice B6 m6 d6], .int .i64 0, .int .i64 0]) (by simp [results, Tryd.results12, go_sem, z_.cell0, z_.cell1, z_.cell2, (br_6.set0 (.bool s6)).cell0, ((br_6.set0 (.bool s6)).set1 (.slice A6 n6 c6)).cell1, (((br_6.set0 (.bool s6)).set1 (.slice A6 n6 c6)).set2 (.slice B6 m6 d6)).cell2]) rfl ((gp_alloc (gp_end (sgnq true (((dval ((l.drop 1).take k)) : Nat) / (1 : Nat)), 0, 0) _ _ rfl rfl F6 (Nat.le_refl _) br_6 q) _).to HP2.out)
set_option maxHeartbeats 1000000 in
theorem ps_neg_other (l : List UInt8) (k : Nat) (w : World) (hl : l.length ≤ 100000) (h0 : l.head? = some 45) (hk : prun (l.drop 1) = k) (hk4 : 0 + k ≤ 4000) (hk0 : k ≠ 0) (he : 1 + k ≠ l.length) (hc : ¬ (l[1 + k]? = some 47 ∨ l[1 + k]? = some 46)) :
    Calls Tryd.prog 12 #[.string (bs l)] w (GP w (pparse l)) := by
  have ha : (if l.head? = some 45 then 1 else 0) = 1 := by rw [if_pos h0]
  have hpos : 0 < l.length := by rcases l with _ | ⟨c, l⟩ <;> simp at h0 ⊢
  have hs := bs_size l
  have hlt0 : 0 < (bs l).size := by omega
  have hg0 := bs_get l 0 45 45 (by rw [← h0]; exact List.head?_eq_getElem?.symm) rfl hlt0
  have ha1 : 1 ≤ l.length := hpos
  clear h0
  have hka := prun_le (l.drop 1)
  rw [hk, List.length_drop] at hka
  have HP := hide (pp_other ha hk (by omega) hk0 he hc)
  have HK := hide hk
  have hlt : 1 + k < (bs l).size := by omega
  obtain ⟨c1, hc1⟩ : ∃ c, l[1 + k]? = some c := ⟨_, List.getElem?_eq_getElem (by omega)⟩
  obtain ⟨x, hx⟩ : ∃ x, c1.toNat = x := ⟨_, rfl⟩
  have hgE := fun (h : 1 + k < (bs l).size) => bs_get l (1 + k) c1 x hc1 hx h
  have h47 : (((x : Nat) : Int) == 47) = false := by
    simp
    intro e
    exact hc (.inl (by rw [hc1, ← UInt8.toNat_inj.1 (show c1.toNat = (47 : UInt8).toNat by rw [hx]; show x = 47; omega)]))
  have h46 : (((x : Nat) : Int) == 46) = false := by
    simp
    intro e
    exact hc (.inr (by rw [hc1, ← UInt8.toNat_inj.1 (show c1.toNat = (46 : UInt8).toNat by rw [hx]; show x = 46; omega)]))
  have HG := hide hgE
  clear hgE hc hc1 hx
  clear ha hk
  have br_1 : Sq ((w).alloc EQ0) (w.heap.size) (.bool false) (.slice none 0 0) (.slice none 0 0) := by have h_ := Sq.new (w) (.bool false) (.slice none 0 0) (.slice none 0 0); exact h_
  have F1 := (Below.refl w.heap.size w).alloc (Nat.le_refl _) EQ0
  go_enter Tryd.func12, Tryd.ntmps12
  go_wp2_with fail
  refine (run_at l 1 0 k _ _ _ rfl rfl HK.out hl ha1 hk4).mono ?_
  rintro e w2 ⟨A2, n2, c2, E2, U2, rfl, hE2, hU2, num, b2⟩
  have br_2 := br_1.below b2 br_1.lt
  have F2 := below_then F1 (Nat.le_refl _) b2
  have br_u2 := br_2.cell0
  have br_v2 := br_2.cell1
  have br_w2 := br_2.cell2
  have e0 : 0 ≤ E2 := by omega
  have e1 : E2 ≤ 1000000 := by omega
  have e2 : (E2 == 1) = false := by simp; omega
  have e3 : E2 ≠ 1 := by omega
  have e4 : decide (E2 < (l.length : Int)) = true := by simp; omega
  have hE_ : E2.toNat = 1 + k := by omega
  have hlt2 : E2.toNat < (bs l).size := by omega
  have hgF : ((bs l)[E2.toNat]'hlt2).toNat = x := get_at l _ _ _ hE_ hlt2 HG.out
  have HE := hide hE2
  have HU := hide hU2
  have u0 : 0 ≤ U2 := by omega
  have u1 : U2 ≤ 4000 := by omega
  clear hE2 hU2 hE_
  go_wp2_with fail
  refine (rof_n 1 1 1 _ rfl (by decide) (by decide)).mono ?_
  rintro e w3 ⟨A3, n3, c3, rfl, den, b3⟩
  have num_3 := num.below b3
  have br_3 := br_2.below b3 br_2.lt
  have F3 := below_then F2 (Nat.le_refl _) b3
  have br_u3 := br_3.cell0
  have br_v3 := br_3.cell1
  have br_w3 := br_3.cell2
  have br_f03 := br_3.frozen 0
  have br_f13 := br_3.frozen 1
  have br_f23 := br_3.frozen 2
  go_wp2_with fail
  refine bodyPost_ret (v := .tuple #[.agg #[.bool false, .slice none 0 0, .slice none 0 0], .int .i64 (E2), .int .i64 4]) (by simp [results, Tryd.results12, go_sem, (br_3.set0 (.bool false)).cell0, ((br_3.set0 (.bool false)).set1 (.slice none 0 0)).cell1, (((br_3.set0 (.bool false)).set1 (.slice none 0 0)).set2 (.slice none 0 0)).cell2]) rfl ((gp_end (0, 1 + k, 4) _ _ (HE.out) rfl F3 (Nat.le_refl _) br_3 (cq_zero _)).to HP.out)
end Go.Proofs.YtjpchbcenbjibaaDoor
