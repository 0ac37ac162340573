/-
  The specification's Parse, its ways.
-/
import Derived.Test.YtjpchbcenbjibaaDoorD2
namespace Go.Proofs.YtjpchbcenbjibaaDoor
open Go.RowKit
set_option linter.unusedVariables false
set_option linter.unusedSimpArgs false

set_option maxHeartbeats 1000000 in
theorem ps_pos_zero47 (l : List UInt8) (k j : Nat) (w : World) (hl : l.length ≤ 100000) (h1 : l ≠ []) (h0 : l.head? ≠ some 45) (hk : prun (l.drop 0) = k) (hj : prun (l.drop (0 + k + 1)) = j) (hk4 : 0 + k ≤ 4000) (hk0 : k ≠ 0) (he : 0 + k ≠ l.length) (hc : l[0 + k]? = some 47) (h2 : k + j ≤ 4000) (h3 : j ≠ 0) (h4 : 0 + k + 1 + j = l.length) (hd : dval ((l.drop (0 + k + 1)).take j) = 0) :
    Calls Tryd.prog 12 #[.string (bs l)] w (GP w (pparse l)) := by
  have ha : (if l.head? = some 45 then 1 else 0) = 0 := by rw [if_neg h0]
  have hpos : 0 < l.length := by rcases l with _ | ⟨c, l⟩ <;> simp at h1 ⊢
  have hs := bs_size l
  have hlt0 : 0 < (bs l).size := by omega
  obtain ⟨c0, hc0⟩ : ∃ c, l.head? = some c := by rcases l with _ | ⟨c, l⟩; exact absurd rfl h1; exact ⟨c, rfl⟩
  obtain ⟨x0, hx0⟩ : ∃ x, c0.toNat = x := ⟨_, rfl⟩
  have hg0 := bs_get l 0 c0 x0 (by rw [← hc0]; exact List.head?_eq_getElem?.symm) hx0 hlt0
  have h45 : (((x0 : Nat) : Int) == 45) = false := by
    simp
    intro e
    apply h0
    rw [hc0, ← UInt8.toNat_inj.1 (show c0.toNat = (45 : UInt8).toNat by rw [hx0]; show x0 = 45; omega)]
  have ha1 : 0 ≤ l.length := Nat.zero_le _
  clear h0 h1 hc0 hx0
  have hka := prun_le (l.drop 0)
  rw [hk, List.length_drop] at hka
  have hja := prun_le (l.drop (0 + k + 1))
  rw [hj, List.length_drop] at hja
  have HP := hide (pp_zero ha hk hj (by omega) hk0 he hc h2 h3 h4 hd)
  have HK := hide hk
  have HJ := hide hj
  have hlt : 0 + k < (bs l).size := by omega
  have hgE := fun (h : 0 + k < (bs l).size) => bs_get l (0 + k) 47 47 hc rfl h
  have HG := hide hgE
  clear hgE hc
  clear ha hk hj
  have HD0 := hide hd
  clear hd
  have br_1 : Sq ((w).alloc EQ0) (w.heap.size) (.bool false) (.slice none 0 0) (.slice none 0 0) := by have h_ := Sq.new (w) (.bool false) (.slice none 0 0) (.slice none 0 0); exact h_
  have F1 := (Below.refl w.heap.size w).alloc (Nat.le_refl _) EQ0
  go_enter Tryd.func12, Tryd.ntmps12
  go_wp2_with fail
  refine (run_at l 0 0 k _ _ _ rfl rfl HK.out hl ha1 hk4).mono ?_
  rintro e w2 ⟨A2, n2, c2, E2, U2, rfl, hE2, hU2, num, b2⟩
  have br_2 := br_1.below b2 br_1.lt
  have F2 := below_then F1 (Nat.le_refl _) b2
  have br_u2 := br_2.cell0
  have br_v2 := br_2.cell1
  have br_w2 := br_2.cell2
  have e0 : 0 ≤ E2 := by omega
  have e1 : E2 ≤ 1000000 := by omega
  have e2 : (E2 == 0) = false := by simp; omega
  have e3 : E2 ≠ 0 := by omega
  have e4 : decide (E2 < (l.length : Int)) = true := by simp; omega
  have hE_ : E2.toNat = 0 + k := by omega
  have hlt2 : E2.toNat < (bs l).size := by omega
  have hgF : ((bs l)[E2.toNat]'hlt2).toNat = 47 := get_at l _ _ _ hE_ hlt2 HG.out
  have HE := hide hE2
  have HU := hide hU2
  have u0 : 0 ≤ U2 := by omega
  have u1 : U2 ≤ 4000 := by omega
  clear hE2 hU2 hE_
  go_wp2_with fail
  refine (rof_n 1 1 1 _ rfl (by decide) (by decide)).mono ?_
  rintro e w3 ⟨A3, n3, c3, rfl, den, b3⟩
  have num_3 := num.below b3
  have br_3 := br_2.below b3 br_2.lt
  have F3 := below_then F2 (Nat.le_refl _) b3
  have br_u3 := br_3.cell0
  have br_v3 := br_3.cell1
  have br_w3 := br_3.cell2
  have ha2 : 0 + k + 1 ≤ l.length := by omega
  have HI := hide (show E2 + 1 = ((0 + k + 1 : Nat) : Int) by rw [HE.out]; rfl)
  have HV := hide (show U2 = ((k : Nat) : Int) by rw [HU.out]; simp)
  go_wp2_with fail
  refine (run_at l (0 + k + 1) k j _ _ _ HI.out HV.out HJ.out hl ha2 h2).mono ?_
  rintro e w4 ⟨A4, n4, c4, E4, U4, rfl, hE4, hU4, frac_, b4⟩
  have num_4 := num_3.below b4
  have den_4 := den.below b4
  have br_4 := br_3.below b4 br_3.lt
  have F4 := below_then F3 (Nat.le_refl _) b4
  have br_u4 := br_4.cell0
  have br_v4 := br_4.cell1
  have br_w4 := br_4.cell2
  have f0 : 0 ≤ E4 := by omega
  have i_ := HI.out
  have f2 : (E4 == E2 + 1) = false := by simp; omega
  clear i_
  have f4 : decide (E4 < (l.length : Int)) = false := by simp; omega
  have HF := hide hE4
  have HW := hide hU4
  have f5 : 0 ≤ U4 := by omega
  have f6 : U4 ≤ 4000 := by omega
  clear hE4 hU4
  obtain ⟨bz, hbz⟩ : ∃ b, (((n4 : Nat) : Int) == 0) = b := ⟨_, rfl⟩
  obtain rfl : bz = true := by rw [← hbz]; have := (ny_pos frac_).2 HD0.out; simp [this]
  have br_f04 := br_4.frozen 0
  have br_f14 := br_4.frozen 1
  have br_f24 := br_4.frozen 2
  go_wp2_with fail
  refine bodyPost_ret (v := .tuple #[.agg #[.bool false, .slice none 0 0, .slice none 0 0], .int .i64 (E2 + 1), .int .i64 3]) (by simp [results, Tryd.results12, go_sem, (br_4.set0 (.bool false)).cell0, ((br_4.set0 (.bool false)).set1 (.slice none 0 0)).cell1, (((br_4.set0 (.bool false)).set1 (.slice none 0 0)).set2 (.slice none 0 0)).cell2]) rfl ((gp_end (0, 0 + k + 1, 3) _ _ (HI.out) rfl F4 (Nat.le_refl _) br_4 (cq_zero _)).to HP.out)
set_option maxHeartbeats 1000000 in
theorem ps_pos_frac47 (l : List UInt8) (k j : Nat) (w : World) (hl : l.length ≤ 100000) (h1 : l ≠ []) (h0 : l.head? ≠ some 45) (hk : prun (l.drop 0) = k) (hj : prun (l.drop (0 + k + 1)) = j) (hk4 : 0 + k ≤ 4000) (hk0 : k ≠ 0) (he : 0 + k ≠ l.length) (hc : l[0 + k]? = some 47) (h2 : k + j ≤ 4000) (h3 : j ≠ 0) (h4 : 0 + k + 1 + j = l.length) (hd : dval ((l.drop (0 + k + 1)).take j) ≠ 0) :
    Calls Tryd.prog 12 #[.string (bs l)] w (GP w (pparse l)) := by
  have ha : (if l.head? = some 45 then 1 else 0) = 0 := by rw [if_neg h0]
  have hpos : 0 < l.length := by rcases l with _ | ⟨c, l⟩ <;> simp at h1 ⊢
  have hs := bs_size l
  have hlt0 : 0 < (bs l).size := by omega
  obtain ⟨c0, hc0⟩ : ∃ c, l.head? = some c := by rcases l with _ | ⟨c, l⟩; exact absurd rfl h1; exact ⟨c, rfl⟩
  obtain ⟨x0, hx0⟩ : ∃ x, c0.toNat = x := ⟨_, rfl⟩
  have hg0 := bs_get l 0 c0 x0 (by rw [← hc0]; exact List.head?_eq_getElem?.symm) hx0 hlt0
  have h45 : (((x0 : Nat) : Int) == 45) = false := by
    simp
    intro e
    apply h0
    rw [hc0, ← UInt8.toNat_inj.1 (show c0.toNat = (45 : UInt8).toNat by rw [hx0]; show x0 = 45; omega)]
  have ha1 : 0 ≤ l.length := Nat.zero_le _
  clear h0 h1 hc0 hx0
  have hka := prun_le (l.drop 0)
  rw [hk, List.length_drop] at hka
  have hja := prun_le (l.drop (0 + k + 1))
  rw [hj, List.length_drop] at hja
  have HP := hide (pp_frac ha hk hj (by omega) hk0 he hc h2 h3 h4 hd)
  have HK := hide hk
  have HJ := hide hj
  have hlt : 0 + k < (bs l).size := by omega
  have hgE := fun (h : 0 + k < (bs l).size) => bs_get l (0 + k) 47 47 hc rfl h
  have HG := hide hgE
  clear hgE hc
  clear ha hk hj
  have HD0 := hide hd
  clear hd
  have br_1 : Sq ((w).alloc EQ0) (w.heap.size) (.bool false) (.slice none 0 0) (.slice none 0 0) := by have h_ := Sq.new (w) (.bool false) (.slice none 0 0) (.slice none 0 0); exact h_
  have F1 := (Below.refl w.heap.size w).alloc (Nat.le_refl _) EQ0
  go_enter Tryd.func12, Tryd.ntmps12
  go_wp2_with fail
  refine (run_at l 0 0 k _ _ _ rfl rfl HK.out hl ha1 hk4).mono ?_
  rintro e w2 ⟨A2, n2, c2, E2, U2, rfl, hE2, hU2, num, b2⟩
  have br_2 := br_1.below b2 br_1.lt
  have F2 := below_then F1 (Nat.le_refl _) b2
  have br_u2 := br_2.cell0
  have br_v2 := br_2.cell1
  have br_w2 := br_2.cell2
  have e0 : 0 ≤ E2 := by omega
  have e1 : E2 ≤ 1000000 := by omega
  have e2 : (E2 == 0) = false := by simp; omega
  have e3 : E2 ≠ 0 := by omega
  have e4 : decide (E2 < (l.length : Int)) = true := by simp; omega
  have hE_ : E2.toNat = 0 + k := by omega
  have hlt2 : E2.toNat < (bs l).size := by omega
  have hgF : ((bs l)[E2.toNat]'hlt2).toNat = 47 := get_at l _ _ _ hE_ hlt2 HG.out
  have HE := hide hE2
  have HU := hide hU2
  have u0 : 0 ≤ U2 := by omega
  have u1 : U2 ≤ 4000 := by omega
  clear hE2 hU2 hE_
  go_wp2_with fail
  refine (rof_n 1 1 1 _ rfl (by decide) (by decide)).mono ?_
  rintro e w3 ⟨A3, n3, c3, rfl, den, b3⟩
  have num_3 := num.below b3
  have br_3 := br_2.below b3 br_2.lt
  have F3 := below_then F2 (Nat.le_refl _) b3
  have br_u3 := br_3.cell0
  have br_v3 := br_3.cell1
  have br_w3 := br_3.cell2
  have ha2 : 0 + k + 1 ≤ l.length := by omega
  have HI := hide (show E2 + 1 = ((0 + k + 1 : Nat) : Int) by rw [HE.out]; rfl)
  have HV := hide (show U2 = ((k : Nat) : Int) by rw [HU.out]; simp)
  go_wp2_with fail
  refine (run_at l (0 + k + 1) k j _ _ _ HI.out HV.out HJ.out hl ha2 h2).mono ?_
  rintro e w4 ⟨A4, n4, c4, E4, U4, rfl, hE4, hU4, frac_, b4⟩
  have num_4 := num_3.below b4
  have den_4 := den.below b4
  have br_4 := br_3.below b4 br_3.lt
  have F4 := below_then F3 (Nat.le_refl _) b4
  have br_u4 := br_4.cell0
  have br_v4 := br_4.cell1
  have br_w4 := br_4.cell2
  have f0 : 0 ≤ E4 := by omega
  have i_ := HI.out
  have f2 : (E4 == E2 + 1) = false := by simp; omega
  clear i_
  have f4 : decide (E4 < (l.length : Int)) = false := by simp; omega
  have HF := hide hE4
  have HW := hide hU4
  have f5 : 0 ≤ U4 := by omega
  have f6 : U4 ≤ 4000 := by omega
  clear hE4 hU4
  obtain ⟨bz, hbz⟩ : ∃ b, (((n4 : Nat) : Int) == 0) = b := ⟨_, rfl⟩
  obtain rfl : bz = false := by rw [← hbz]; simp; exact fun e => HD0.out ((ny_pos frac_).1 e)
  have hKN : k + 1 ≤ 16384 := by omega
  have hKD : j + 1 ≤ 16384 := by omega
  have hY0 : (dval ((l.drop (0 + k + 1)).take j)) ≠ 0 := HD0.out
  have hn1 : (iv false (dg (dval ((l.drop 0).take k)))).natAbs < pw (k + 1) := by rw [iv_abs, val_dg]; exact num_4.lt
  have hd1 : (iv false (dg (dval ((l.drop (0 + k + 1)).take j)))).natAbs < pw (j + 1) := by rw [iv_abs, val_dg]; exact frac_.lt
  have hd0 : iv false (dg (dval ((l.drop (0 + k + 1)).take j))) ≠ 0 := by have := iv_abs false (dg (dval ((l.drop (0 + k + 1)).take j))); rw [val_dg] at this; omega
  go_wp2_with fail
  refine (rmake_int false _ _ _ _ _ (num_4.iz false) (Nat.le_trans num_4.1 (by omega))).mono ?_
  rintro e w5 ⟨s5, A5, n5, c5, rfl, z1, b5⟩
  have num_5 := num_4.below b5
  have den_5 := den_4.below b5
  have frac__5 := frac_.below b5
  have br_5 := br_4.below b5 br_4.lt
  have F5 := below_then F4 (Nat.le_refl _) b5
  have br_u5 := br_5.cell0
  have br_v5 := br_5.cell1
  have br_w5 := br_5.cell2
  have lz1 := Nat.le_trans (z1.len hn1) hKN
  go_wp2_with fail
  refine (rmake_int false _ _ _ _ _ (frac__5.iz false) (Nat.le_trans frac__5.1 (by omega))).mono ?_
  rintro e w6 ⟨s6, A6, n6, c6, rfl, z2, b6⟩
  have num_6 := num_5.below b6
  have den_6 := den_5.below b6
  have frac__6 := frac__5.below b6
  have z1_6 := z1.below b6
  have br_6 := br_5.below b6 br_5.lt
  have F6 := below_then F5 (Nat.le_refl _) b6
  have br_u6 := br_6.cell0
  have br_v6 := br_6.cell1
  have br_w6 := br_6.cell2
  have lz2 := Nat.le_trans (z2.len hd1) hKD
  go_wp2_with fail
  refine (rmake_q _ _ _ _ _ _ _ _ _ _ _ _ (make_value false (dval ((l.drop 0).take k)) (dval ((l.drop (0 + k + 1)).take j))) hd0 z1_6.iz z2.iz lz1 lz2).mono ?_
  rintro e w7 ⟨s7, A7, n7, c7, B7, m7, d7, rfl, q, b7⟩
  have num_7 := num_6.below b7
  have den_7 := den_6.below b7
  have frac__7 := frac__6.below b7
  have z1_7 := z1_6.below b7
  have z2_7 := z2.below b7
  have br_7 := br_6.below b7 br_6.lt
  have F7 := below_then F6 (Nat.le_refl _) b7
  have br_u7 := br_7.cell0
  have br_v7 := br_7.cell1
  have br_w7 := br_7.cell2
  have br_f07 := br_7.frozen 0
  have br_f17 := br_7.frozen 1
  have br_f27 := br_7.frozen 2
  have lt_ := br_7.lt
  have ne_ := Nat.ne_of_lt br_7.lt
  go_wp2_with fail
  have z_ := (br_7.stor (u0 := .bool s7) (u1 := .slice A7 n7 c7) (u2 := .slice B7 m7 d7)).alloc (EQ s7 A7 n7 c7 B7 m7 d7)
  refine bodyPost_ret (v := .tuple #[.agg #[.bool s7, .slice A7 n7 c7, .slice B7 m7 d7], .int .i64 0, .int .i64 0]) (by simp [results, Tryd.results12, go_sem, z_.cell0, z_.cell1, z_.cell2, (br_7.set0 (.bool s7)).cell0, ((br_7.set0 (.bool s7)).set1 (.slice A7 n7 c7)).cell1, (((br_7.set0 (.bool s7)).set1 (.slice A7 n7 c7)).set2 (.slice B7 m7 d7)).cell2]) rfl ((gp_alloc (gp_end (sgnq false (((dval ((l.drop 0).take k)) : Nat) / ((dval ((l.drop (0 + k + 1)).take j)) : Nat)), 0, 0) _ _ rfl rfl F7 (Nat.le_refl _) br_7 q) _).to HP.out)
set_option maxHeartbeats 1000000 in
theorem ps_pos_dec46 (l : List UInt8) (k j : Nat) (w : World) (hl : l.length ≤ 100000) (h1 : l ≠ []) (h0 : l.head? ≠ some 45) (hk : prun (l.drop 0) = k) (hj : prun (l.drop (0 + k + 1)) = j) (hk4 : 0 + k ≤ 4000) (hk0 : k ≠ 0) (he : 0 + k ≠ l.length) (hc : l[0 + k]? = some 46) (h2 : k + j ≤ 4000) (h3 : j ≠ 0) (h4 : 0 + k + 1 + j = l.length) :
    Calls Tryd.prog 12 #[.string (bs l)] w (GP w (pparse l)) := by
  have ha : (if l.head? = some 45 then 1 else 0) = 0 := by rw [if_neg h0]
  have hpos : 0 < l.length := by rcases l with _ | ⟨c, l⟩ <;> simp at h1 ⊢
  have hs := bs_size l
  have hlt0 : 0 < (bs l).size := by omega
  obtain ⟨c0, hc0⟩ : ∃ c, l.head? = some c := by rcases l with _ | ⟨c, l⟩; exact absurd rfl h1; exact ⟨c, rfl⟩
  obtain ⟨x0, hx0⟩ : ∃ x, c0.toNat = x := ⟨_, rfl⟩
  have hg0 := bs_get l 0 c0 x0 (by rw [← hc0]; exact List.head?_eq_getElem?.symm) hx0 hlt0
  have h45 : (((x0 : Nat) : Int) == 45) = false := by
    simp
    intro e
    apply h0
    rw [hc0, ← UInt8.toNat_inj.1 (show c0.toNat = (45 : UInt8).toNat by rw [hx0]; show x0 = 45; omega)]
  have ha1 : 0 ≤ l.length := Nat.zero_le _
  clear h0 h1 hc0 hx0
  have hka := prun_le (l.drop 0)
  rw [hk, List.length_drop] at hka
  have hja := prun_le (l.drop (0 + k + 1))
  rw [hj, List.length_drop] at hja
  have HP := hide (pp_dec ha hk hj (by omega) hk0 he hc h2 h3 h4)
  have HK := hide hk
  have HJ := hide hj
  have hlt : 0 + k < (bs l).size := by omega
  have hgE := fun (h : 0 + k < (bs l).size) => bs_get l (0 + k) 46 46 hc rfl h
  have HG := hide hgE
  clear hgE hc
  clear ha hk hj
  have br_1 : Sq ((w).alloc EQ0) (w.heap.size) (.bool false) (.slice none 0 0) (.slice none 0 0) := by have h_ := Sq.new (w) (.bool false) (.slice none 0 0) (.slice none 0 0); exact h_
  have F1 := (Below.refl w.heap.size w).alloc (Nat.le_refl _) EQ0
  go_enter Tryd.func12, Tryd.ntmps12
  go_wp2_with fail
  refine (run_at l 0 0 k _ _ _ rfl rfl HK.out hl ha1 hk4).mono ?_
  rintro e w2 ⟨A2, n2, c2, E2, U2, rfl, hE2, hU2, num, b2⟩
  have br_2 := br_1.below b2 br_1.lt
  have F2 := below_then F1 (Nat.le_refl _) b2
  have br_u2 := br_2.cell0
  have br_v2 := br_2.cell1
  have br_w2 := br_2.cell2
  have e0 : 0 ≤ E2 := by omega
  have e1 : E2 ≤ 1000000 := by omega
  have e2 : (E2 == 0) = false := by simp; omega
  have e3 : E2 ≠ 0 := by omega
  have e4 : decide (E2 < (l.length : Int)) = true := by simp; omega
  have hE_ : E2.toNat = 0 + k := by omega
  have hlt2 : E2.toNat < (bs l).size := by omega
  have hgF : ((bs l)[E2.toNat]'hlt2).toNat = 46 := get_at l _ _ _ hE_ hlt2 HG.out
  have HE := hide hE2
  have HU := hide hU2
  have u0 : 0 ≤ U2 := by omega
  have u1 : U2 ≤ 4000 := by omega
  clear hE2 hU2 hE_
  go_wp2_with fail
  refine (rof_n 1 1 1 _ rfl (by decide) (by decide)).mono ?_
  rintro e w3 ⟨A3, n3, c3, rfl, den, b3⟩
  have num_3 := num.below b3
  have br_3 := br_2.below b3 br_2.lt
  have F3 := below_then F2 (Nat.le_refl _) b3
  have br_u3 := br_3.cell0
  have br_v3 := br_3.cell1
  have br_w3 := br_3.cell2
  have ha2 : 0 + k + 1 ≤ l.length := by omega
  have HI := hide (show E2 + 1 = ((0 + k + 1 : Nat) : Int) by rw [HE.out]; rfl)
  have HV := hide (show U2 = ((k : Nat) : Int) by rw [HU.out]; simp)
  go_wp2_with fail
  refine (run_at l (0 + k + 1) k j _ _ _ HI.out HV.out HJ.out hl ha2 h2).mono ?_
  rintro e w4 ⟨A4, n4, c4, E4, U4, rfl, hE4, hU4, frac_, b4⟩
  have num_4 := num_3.below b4
  have den_4 := den.below b4
  have br_4 := br_3.below b4 br_3.lt
  have F4 := below_then F3 (Nat.le_refl _) b4
  have br_u4 := br_4.cell0
  have br_v4 := br_4.cell1
  have br_w4 := br_4.cell2
  have f0 : 0 ≤ E4 := by omega
  have i_ := HI.out
  have f2 : (E4 == E2 + 1) = false := by simp; omega
  clear i_
  have f4 : decide (E4 < (l.length : Int)) = false := by simp; omega
  have HF := hide hE4
  have HW := hide hU4
  have f5 : 0 ≤ U4 := by omega
  have f6 : U4 ≤ 4000 := by omega
  clear hE4 hU4
  have HS := hide (show U4 - U2 = ((j : Nat) : Int) by rw [HW.out, HV.out]; omega)
  go_wp2_with fail
  refine (power_at _ j _ HS.out (by omega)).mono ?_
  rintro e w5 ⟨A5, n5, c5, rfl, pw_, b5⟩
  have num_5 := num_4.below b5
  have den_5 := den_4.below b5
  have frac__5 := frac_.below b5
  have br_5 := br_4.below b5 br_4.lt
  have F5 := below_then F4 (Nat.le_refl _) b5
  have br_u5 := br_5.cell0
  have br_v5 := br_5.cell1
  have br_w5 := br_5.cell2
  go_wp2_with fail
  refine (rmul_n _ _ _ _ _ _ (k + 1) (j + 1) (k + j + 2) _ _ ((dval ((l.drop 0).take k)) * 10 ^ j) _ rfl num_5.nz pw_.nz (by omega) (by omega)).mono ?_
  rintro e w6 ⟨A6, n6, c6, rfl, p1, b6⟩
  have num_6 := num_5.below b6
  have den_6 := den_5.below b6
  have frac__6 := frac__5.below b6
  have pw__6 := pw_.below b6
  have br_6 := br_5.below b6 br_5.lt
  have F6 := below_then F5 (Nat.le_refl _) b6
  have br_u6 := br_6.cell0
  have br_v6 := br_6.cell1
  have br_w6 := br_6.cell2
  go_wp2_with fail
  refine (radd_n _ _ _ _ _ _ (k + j + 2) (j + 1) (k + j + 3) _ _ ((dval ((l.drop 0).take k)) * 10 ^ j + (dval ((l.drop (0 + k + 1)).take j))) _ rfl p1.nz frac__6.nz (by omega) (by omega) (by omega)).mono ?_
  rintro e w7 ⟨A7, n7, c7, rfl, p2, b7⟩
  have num_7 := num_6.below b7
  have den_7 := den_6.below b7
  have frac__7 := frac__6.below b7
  have pw__7 := pw__6.below b7
  have p1_7 := p1.below b7
  have br_7 := br_6.below b7 br_6.lt
  have F7 := below_then F6 (Nat.le_refl _) b7
  have br_u7 := br_7.cell0
  have br_v7 := br_7.cell1
  have br_w7 := br_7.cell2
  have hKN : k + j + 3 ≤ 16384 := by omega
  have hKD : j + 1 ≤ 16384 := by omega
  have hT0 : 10 ^ j ≠ 0 := Nat.ne_of_gt (Nat.pow_pos (by decide))
  have hn1 : (iv false (dg ((dval ((l.drop 0).take k)) * 10 ^ j + (dval ((l.drop (0 + k + 1)).take j))))).natAbs < pw (k + j + 3) := by rw [iv_abs, val_dg]; exact p2.lt
  have hd1 : (iv false (dg (10 ^ j))).natAbs < pw (j + 1) := by rw [iv_abs, val_dg]; exact pw__7.lt
  have hd0 : iv false (dg (10 ^ j)) ≠ 0 := by have := iv_abs false (dg (10 ^ j)); rw [val_dg] at this; omega
  go_wp2_with fail
  refine (rmake_int false _ _ _ _ _ (p2.iz false) (Nat.le_trans p2.1 (by omega))).mono ?_
  rintro e w8 ⟨s8, A8, n8, c8, rfl, z1, b8⟩
  have num_8 := num_7.below b8
  have den_8 := den_7.below b8
  have frac__8 := frac__7.below b8
  have pw__8 := pw__7.below b8
  have p1_8 := p1_7.below b8
  have p2_8 := p2.below b8
  have br_8 := br_7.below b8 br_7.lt
  have F8 := below_then F7 (Nat.le_refl _) b8
  have br_u8 := br_8.cell0
  have br_v8 := br_8.cell1
  have br_w8 := br_8.cell2
  have lz1 := Nat.le_trans (z1.len hn1) hKN
  go_wp2_with fail
  refine (rmake_int false _ _ _ _ _ (pw__8.iz false) (Nat.le_trans pw__8.1 (by omega))).mono ?_
  rintro e w9 ⟨s9, A9, n9, c9, rfl, z2, b9⟩
  have num_9 := num_8.below b9
  have den_9 := den_8.below b9
  have frac__9 := frac__8.below b9
  have pw__9 := pw__8.below b9
  have p1_9 := p1_8.below b9
  have p2_9 := p2_8.below b9
  have z1_9 := z1.below b9
  have br_9 := br_8.below b9 br_8.lt
  have F9 := below_then F8 (Nat.le_refl _) b9
  have br_u9 := br_9.cell0
  have br_v9 := br_9.cell1
  have br_w9 := br_9.cell2
  have lz2 := Nat.le_trans (z2.len hd1) hKD
  go_wp2_with fail
  refine (rmake_q _ _ _ _ _ _ _ _ _ _ _ _ (make_value false ((dval ((l.drop 0).take k)) * 10 ^ j + (dval ((l.drop (0 + k + 1)).take j))) (10 ^ j)) hd0 z1_9.iz z2.iz lz1 lz2).mono ?_
  rintro e w10 ⟨s10, A10, n10, c10, B10, m10, d10, rfl, q, b10⟩
  have num_10 := num_9.below b10
  have den_10 := den_9.below b10
  have frac__10 := frac__9.below b10
  have pw__10 := pw__9.below b10
  have p1_10 := p1_9.below b10
  have p2_10 := p2_9.below b10
  have z1_10 := z1_9.below b10
  have z2_10 := z2.below b10
  have br_10 := br_9.below b10 br_9.lt
  have F10 := below_then F9 (Nat.le_refl _) b10
  have br_u10 := br_10.cell0
  have br_v10 := br_10.cell1
  have br_w10 := br_10.cell2
  have br_f010 := br_10.frozen 0
  have br_f110 := br_10.frozen 1
  have br_f210 := br_10.frozen 2
  have lt_ := br_10.lt
  have ne_ := Nat.ne_of_lt br_10.lt
  go_wp2_with fail
  have z_ := (br_10.stor (u0 := .bool s10) (u1 := .slice A10 n10 c10) (u2 := .slice B10 m10 d10)).alloc (EQ s10 A10 n10 c10 B10 m10 d10)
  refine bodyPost_ret (v := .tuple #[.agg #[.bool s10, .slice A10 n10 c10, .slice B10 m10 d10], .int .i64 0, .int .i64 0]) (by simp [results, Tryd.results12, go_sem, z_.cell0, z_.cell1, z_.cell2, (br_10.set0 (.bool s10)).cell0, ((br_10.set0 (.bool s10)).set1 (.slice A10 n10 c10)).cell1, (((br_10.set0 (.bool s10)).set1 (.slice A10 n10 c10)).set2 (.slice B10 m10 d10)).cell2]) rfl ((gp_alloc (gp_end (sgnq false ((((dval ((l.drop 0).take k)) * 10 ^ j + (dval ((l.drop (0 + k + 1)).take j))) : Nat) / ((10 ^ j) : Nat)), 0, 0) _ _ rfl rfl F10 (Nat.le_refl _) br_10 q) _).to HP.out)
end Go.Proofs.YtjpchbcenbjibaaDoor
