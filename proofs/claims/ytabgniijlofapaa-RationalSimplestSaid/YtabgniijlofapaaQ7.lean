/-
  The program's span: enter.
-/
import Derived.Test.YtabgniijlofapaaQ6
namespace Go.Proofs.Ytabgniijlofapaa
open Go.RowKit
set_option linter.unusedVariables false
set_option linter.unusedSimpArgs false

theorem cmp_n (A B : Option Addr) (n m c d k l X Y : Nat) (r : Int) (w : World) (hr : sg X Y = r) (h : Nz w A n c k X) (h2 : Nz w B m d l Y) (hk : k ≤ 1048576) (hl : l ≤ 1048576) :
    Calls Try.prog 91 #[.slice A n c, .slice B m d] w (Asks w (.int .i64 r)) := by
  obtain ⟨h1, xs, hx, ex⟩ := h
  obtain ⟨k1, ys, hy, ey⟩ := h2
  exact cmp_at A B n m c d xs ys w X Y r ex.symm ey.symm hx hy (by omega) (by omega) hr
theorem Ny.nil {w : World} {A : Option Addr} {n c k X : Nat} (h : Ny w A n c k X) (b : Bool) (hb : decide (X = 0) = b) : (((n : Nat) : Int) == 0) = b := by
  have h1 := h.pos
  rw [← hb, Bool.eq_iff_iff]
  simp only [decide_eq_decide] at h1
  simp
  omega
set_option maxHeartbeats 1000000 in
theorem enter_1 (g : Nat) (s t : Bool) (A B A' B' : Option Addr) (n c m d n' c' m' d' : Nat) (xs ys xs' ys' : List Nat) (X D X' D' K : Nat) (w : World) (hs : Sp w g (.bool s) (.slice A n c) (.slice B m d) (.bool t) (.slice A' n' c') (.slice B' m' d')) (hx : Rd w A n c xs) (hy : Rd w B m d ys) (kx : Rd w A' n' c' xs') (ky : Rd w B' m' d' ys') (hX : val xs = X) (hD : rden ys = D) (hX' : val xs' = X') (hD' : rden ys' = D') (hK : K ≤ 1000) (hK1 : 1 ≤ K) (hn : n ≤ K) (hm : m ≤ K) (hn' : n' ≤ K) (hm' : m' ≤ K) (L LR H HR : Nat) (hL : X / D = L) (hLR : X % D = LR) (hH : X' / D' = H) (hHR : X' % D' = HR) (h0 : LR = 0) :
    Calls Try.prog 97 #[.pointer (some ⟨g, 0, none⟩)] w fun e w' => ∃ A1 n1 c1, e = .returned (.tuple #[.slice A1 n1 c1, .bool false]) ∧ Ny w' A1 n1 c1 (K + 1) L ∧ Below w.heap.size w w' := by
  have hx0 := hx.nz hn
  have kx0 := kx.nz hn'
  rw [hX] at hx0
  rw [hX'] at kx0
  have HD := hide hD
  have HD' := hide hD'
  have HD0 : 0 < D := by have := rden_pos ys; omega
  have HD0' : 0 < D' := by have := rden_pos ys'; omega
  have o1 : K ≤ 1048576 := by omega
  have o2 : K ≤ 65536 := by omega
  have o3 : K + 1 ≤ 1048576 := by omega
  have HL := hide hL
  have HLR := hide hLR
  have HH := hide hH
  have HHR := hide hHR
  have HE0 := hide (show decide (LR = 0) = true by simpa using h0)
  clear hL hLR hH hHR h0
  clear hX hD hX' hD' hx kx
  have sp_u0 := hs.cell0
  have sp_v0 := hs.cell1
  have sp_w0 := hs.cell2
  have sp_x0 := hs.cell3
  have sp_y0 := hs.cell4
  have sp_z0 := hs.cell5
  have glt := hs.lt
  go_enter Try.func97, Try.ntmps97
  go_wp2_with fail
  have hx0_1 := hx0.drew
  have hy_1 := hy.drew
  have kx0_1 := kx0.drew
  have ky_1 := ky.drew
  have sp_1 := hs.drew
  have F1 := (Below.refl w.heap.size w).drew
  go_region_held3 (fun w' => w'.cell? ⟨g, 0, none⟩ = some (.bool s) ∧ w'.cell? ⟨g, 1, none⟩ = some (.slice A n c) ∧ w'.cell? ⟨g, 2, none⟩ = some (.slice B m d) ∧ w'.cell? ⟨g, 3, none⟩ = some (.bool t) ∧ w'.cell? ⟨g, 4, none⟩ = some (.slice A' n' c') ∧ w'.cell? ⟨g, 5, none⟩ = some (.slice B' m' d'))
    (first
      | with_reducible exact ⟨sp_3.cell0, sp_3.cell1, sp_3.cell2, sp_3.cell3, sp_3.cell4, sp_3.cell5⟩
      | with_reducible exact ⟨sp_2.cell0, sp_2.cell1, sp_2.cell2, sp_2.cell3, sp_2.cell4, sp_2.cell5⟩
      | with_reducible exact ⟨sp_1.cell0, sp_1.cell1, sp_1.cell2, sp_1.cell3, sp_1.cell4, sp_1.cell5⟩
      | fail)
    (first
      | (go_at_call 57; (with_reducible refine (divisor_n _ _ _ _ _ _ _ ys K D _ HD.out hy_1 hm hK1 o1).mono ?_); rintro e w2 ⟨A2, n2, c2, rfl, o1_, b2⟩; have hx0_2 := hx0_1.below b2; have hy_2 := hy_1.below b2; have kx0_2 := kx0_1.below b2; have ky_2 := ky_1.below b2; have sp_2 := sp_1.below b2 sp_1.lt; have F2 := below_then F1 (Nat.le_refl _) b2)
      | (go_at_call 96; (with_reducible refine (div_n _ _ _ _ _ _ K K X D _ _ _ HL.out HLR.out HD0 hx0_2 o1_ o2 o2).mono ?_); rintro e w3 ⟨A3, n3, c3, B3, m3, d3, rfl, lo_, lr_, b3⟩; have hx0_3 := hx0_2.below b3; have hy_3 := hy_2.below b3; have kx0_3 := kx0_2.below b3; have ky_3 := ky_2.below b3; have o1__3 := o1_.below b3; have sp_3 := sp_2.below b3 sp_2.lt; have F3 := below_then F2 (Nat.le_refl _) b3)
      | fail)
  have sp_u3 := sp_3.cell0
  have sp_v3 := sp_3.cell1
  have sp_w3 := sp_3.cell2
  have sp_x3 := sp_3.cell3
  have sp_y3 := sp_3.cell4
  have sp_z3 := sp_3.cell5
  have e0_ := lr_.nil true HE0.out
  go_wp2_with fail
  have hx0_4 := hx0_3.drew
  have hy_4 := hy_3.drew
  have kx0_4 := kx0_3.drew
  have ky_4 := ky_3.drew
  have o1__4 := o1__3.drew
  have lo__4 := lo_.drew
  have lr__4 := lr_.drew
  have sp_4 := sp_3.drew
  have F4 := F3.drew
  go_region_held3 (fun w' => w'.cell? ⟨g, 0, none⟩ = some (.bool s) ∧ w'.cell? ⟨g, 1, none⟩ = some (.slice A n c) ∧ w'.cell? ⟨g, 2, none⟩ = some (.slice B m d) ∧ w'.cell? ⟨g, 3, none⟩ = some (.bool t) ∧ w'.cell? ⟨g, 4, none⟩ = some (.slice A' n' c') ∧ w'.cell? ⟨g, 5, none⟩ = some (.slice B' m' d'))
    (first
      | with_reducible exact ⟨sp_6.cell0, sp_6.cell1, sp_6.cell2, sp_6.cell3, sp_6.cell4, sp_6.cell5⟩
      | with_reducible exact ⟨sp_5.cell0, sp_5.cell1, sp_5.cell2, sp_5.cell3, sp_5.cell4, sp_5.cell5⟩
      | with_reducible exact ⟨sp_4.cell0, sp_4.cell1, sp_4.cell2, sp_4.cell3, sp_4.cell4, sp_4.cell5⟩
      | fail)
    (first
      | (go_at_call 57; (with_reducible refine (divisor_n _ _ _ _ _ _ _ ys' K D' _ HD'.out ky_4 hm' hK1 o1).mono ?_); rintro e w5 ⟨A5, n5, c5, rfl, o2_, b5⟩; have hx0_5 := hx0_4.below b5; have hy_5 := hy_4.below b5; have kx0_5 := kx0_4.below b5; have ky_5 := ky_4.below b5; have o1__5 := o1__4.below b5; have lo__5 := lo__4.below b5; have lr__5 := lr__4.below b5; have sp_5 := sp_4.below b5 sp_4.lt; have F5 := below_then F4 (Nat.le_refl _) b5)
      | (go_at_call 96; (with_reducible refine (div_n _ _ _ _ _ _ K K X' D' _ _ _ HH.out HHR.out HD0' kx0_5 o2_ o2 o2).mono ?_); rintro e w6 ⟨A6, n6, c6, B6, m6, d6, rfl, hi_, hr_, b6⟩; have hx0_6 := hx0_5.below b6; have hy_6 := hy_5.below b6; have kx0_6 := kx0_5.below b6; have ky_6 := ky_5.below b6; have o1__6 := o1__5.below b6; have lo__6 := lo__5.below b6; have lr__6 := lr__5.below b6; have o2__6 := o2_.below b6; have sp_6 := sp_5.below b6 sp_5.lt; have F6 := below_then F5 (Nat.le_refl _) b6)
      | fail)
  have sp_u6 := sp_6.cell0
  have sp_v6 := sp_6.cell1
  have sp_w6 := sp_6.cell2
  have sp_x6 := sp_6.cell3
  have sp_y6 := sp_6.cell4
  have sp_z6 := sp_6.cell5
  go_wp2
  go_ret2
  exact ⟨_, _, _, rfl, lo__6.mono (by omega), F6⟩
set_option maxHeartbeats 1000000 in
theorem enter_2 (g : Nat) (s t : Bool) (A B A' B' : Option Addr) (n c m d n' c' m' d' : Nat) (xs ys xs' ys' : List Nat) (X D X' D' K : Nat) (w : World) (hs : Sp w g (.bool s) (.slice A n c) (.slice B m d) (.bool t) (.slice A' n' c') (.slice B' m' d')) (hx : Rd w A n c xs) (hy : Rd w B m d ys) (kx : Rd w A' n' c' xs') (ky : Rd w B' m' d' ys') (hX : val xs = X) (hD : rden ys = D) (hX' : val xs' = X') (hD' : rden ys' = D') (hK : K ≤ 1000) (hK1 : 1 ≤ K) (hn : n ≤ K) (hm : m ≤ K) (hn' : n' ≤ K) (hm' : m' ≤ K) (L LR H HR : Nat) (hL : X / D = L) (hLR : X % D = LR) (hH : X' / D' = H) (hHR : X' % D' = HR) (h0 : LR ≠ 0) (h1 : L < H) :
    Calls Try.prog 97 #[.pointer (some ⟨g, 0, none⟩)] w fun e w' => ∃ A1 n1 c1, e = .returned (.tuple #[.slice A1 n1 c1, .bool false]) ∧ Ny w' A1 n1 c1 (K + 1) (L + 1) ∧ Below w.heap.size w w' := by
  have hx0 := hx.nz hn
  have kx0 := kx.nz hn'
  rw [hX] at hx0
  rw [hX'] at kx0
  have HD := hide hD
  have HD' := hide hD'
  have HD0 : 0 < D := by have := rden_pos ys; omega
  have HD0' : 0 < D' := by have := rden_pos ys'; omega
  have o1 : K ≤ 1048576 := by omega
  have o2 : K ≤ 65536 := by omega
  have o3 : K + 1 ≤ 1048576 := by omega
  have HL := hide hL
  have HLR := hide hLR
  have HH := hide hH
  have HHR := hide hHR
  have HE0 := hide (show decide (LR = 0) = false by simpa using h0)
  have HC := hide (show sg L H = -1 from sg_lt h1)
  clear hL hLR hH hHR h0
  clear hX hD hX' hD' hx kx
  have sp_u0 := hs.cell0
  have sp_v0 := hs.cell1
  have sp_w0 := hs.cell2
  have sp_x0 := hs.cell3
  have sp_y0 := hs.cell4
  have sp_z0 := hs.cell5
  have glt := hs.lt
  go_enter Try.func97, Try.ntmps97
  go_wp2_with fail
  have hx0_1 := hx0.drew
  have hy_1 := hy.drew
  have kx0_1 := kx0.drew
  have ky_1 := ky.drew
  have sp_1 := hs.drew
  have F1 := (Below.refl w.heap.size w).drew
  go_region_held3 (fun w' => w'.cell? ⟨g, 0, none⟩ = some (.bool s) ∧ w'.cell? ⟨g, 1, none⟩ = some (.slice A n c) ∧ w'.cell? ⟨g, 2, none⟩ = some (.slice B m d) ∧ w'.cell? ⟨g, 3, none⟩ = some (.bool t) ∧ w'.cell? ⟨g, 4, none⟩ = some (.slice A' n' c') ∧ w'.cell? ⟨g, 5, none⟩ = some (.slice B' m' d'))
    (first
      | with_reducible exact ⟨sp_3.cell0, sp_3.cell1, sp_3.cell2, sp_3.cell3, sp_3.cell4, sp_3.cell5⟩
      | with_reducible exact ⟨sp_2.cell0, sp_2.cell1, sp_2.cell2, sp_2.cell3, sp_2.cell4, sp_2.cell5⟩
      | with_reducible exact ⟨sp_1.cell0, sp_1.cell1, sp_1.cell2, sp_1.cell3, sp_1.cell4, sp_1.cell5⟩
      | fail)
    (first
      | (go_at_call 57; (with_reducible refine (divisor_n _ _ _ _ _ _ _ ys K D _ HD.out hy_1 hm hK1 o1).mono ?_); rintro e w2 ⟨A2, n2, c2, rfl, o1_, b2⟩; have hx0_2 := hx0_1.below b2; have hy_2 := hy_1.below b2; have kx0_2 := kx0_1.below b2; have ky_2 := ky_1.below b2; have sp_2 := sp_1.below b2 sp_1.lt; have F2 := below_then F1 (Nat.le_refl _) b2)
      | (go_at_call 96; (with_reducible refine (div_n _ _ _ _ _ _ K K X D _ _ _ HL.out HLR.out HD0 hx0_2 o1_ o2 o2).mono ?_); rintro e w3 ⟨A3, n3, c3, B3, m3, d3, rfl, lo_, lr_, b3⟩; have hx0_3 := hx0_2.below b3; have hy_3 := hy_2.below b3; have kx0_3 := kx0_2.below b3; have ky_3 := ky_2.below b3; have o1__3 := o1_.below b3; have sp_3 := sp_2.below b3 sp_2.lt; have F3 := below_then F2 (Nat.le_refl _) b3)
      | fail)
  have sp_u3 := sp_3.cell0
  have sp_v3 := sp_3.cell1
  have sp_w3 := sp_3.cell2
  have sp_x3 := sp_3.cell3
  have sp_y3 := sp_3.cell4
  have sp_z3 := sp_3.cell5
  have e0_ := lr_.nil false HE0.out
  go_wp2_with fail
  have hx0_4 := hx0_3.drew
  have hy_4 := hy_3.drew
  have kx0_4 := kx0_3.drew
  have ky_4 := ky_3.drew
  have o1__4 := o1__3.drew
  have lo__4 := lo_.drew
  have lr__4 := lr_.drew
  have sp_4 := sp_3.drew
  have F4 := F3.drew
  go_region_held3 (fun w' => w'.cell? ⟨g, 0, none⟩ = some (.bool s) ∧ w'.cell? ⟨g, 1, none⟩ = some (.slice A n c) ∧ w'.cell? ⟨g, 2, none⟩ = some (.slice B m d) ∧ w'.cell? ⟨g, 3, none⟩ = some (.bool t) ∧ w'.cell? ⟨g, 4, none⟩ = some (.slice A' n' c') ∧ w'.cell? ⟨g, 5, none⟩ = some (.slice B' m' d'))
    (first
      | with_reducible exact ⟨sp_6.cell0, sp_6.cell1, sp_6.cell2, sp_6.cell3, sp_6.cell4, sp_6.cell5⟩
      | with_reducible exact ⟨sp_5.cell0, sp_5.cell1, sp_5.cell2, sp_5.cell3, sp_5.cell4, sp_5.cell5⟩
      | with_reducible exact ⟨sp_4.cell0, sp_4.cell1, sp_4.cell2, sp_4.cell3, sp_4.cell4, sp_4.cell5⟩
      | fail)
    (first
      | (go_at_call 57; (with_reducible refine (divisor_n _ _ _ _ _ _ _ ys' K D' _ HD'.out ky_4 hm' hK1 o1).mono ?_); rintro e w5 ⟨A5, n5, c5, rfl, o2_, b5⟩; have hx0_5 := hx0_4.below b5; have hy_5 := hy_4.below b5; have kx0_5 := kx0_4.below b5; have ky_5 := ky_4.below b5; have o1__5 := o1__4.below b5; have lo__5 := lo__4.below b5; have lr__5 := lr__4.below b5; have sp_5 := sp_4.below b5 sp_4.lt; have F5 := below_then F4 (Nat.le_refl _) b5)
      | (go_at_call 96; (with_reducible refine (div_n _ _ _ _ _ _ K K X' D' _ _ _ HH.out HHR.out HD0' kx0_5 o2_ o2 o2).mono ?_); rintro e w6 ⟨A6, n6, c6, B6, m6, d6, rfl, hi_, hr_, b6⟩; have hx0_6 := hx0_5.below b6; have hy_6 := hy_5.below b6; have kx0_6 := kx0_5.below b6; have ky_6 := ky_5.below b6; have o1__6 := o1__5.below b6; have lo__6 := lo__5.below b6; have lr__6 := lr__5.below b6; have o2__6 := o2_.below b6; have sp_6 := sp_5.below b6 sp_5.lt; have F6 := below_then F5 (Nat.le_refl _) b6)
      | fail)
  have sp_u6 := sp_6.cell0
  have sp_v6 := sp_6.cell1
  have sp_w6 := sp_6.cell2
  have sp_x6 := sp_6.cell3
  have sp_y6 := sp_6.cell4
  have sp_z6 := sp_6.cell5
  go_wp2_with fail
  refine (cmp_n _ _ _ _ _ _ K K _ _ (-1) _ HC.out lo__6.nz hi_.nz o1 o1).mono ?_
  rintro e w7 ⟨rfl, b7⟩
  have hx0_7 := hx0_6.below b7
  have hy_7 := hy_6.below b7
  have kx0_7 := kx0_6.below b7
  have ky_7 := ky_6.below b7
  have o1__7 := o1__6.below b7
  have lo__7 := lo__6.below b7
  have lr__7 := lr__6.below b7
  have o2__7 := o2__6.below b7
  have hi__7 := hi_.below b7
  have hr__7 := hr_.below b7
  have sp_7 := sp_6.below b7 sp_6.lt
  have F7 := below_then F6 (Nat.le_refl _) b7
  have sp_u7 := sp_7.cell0
  have sp_v7 := sp_7.cell1
  have sp_w7 := sp_7.cell2
  have sp_x7 := sp_7.cell3
  have sp_y7 := sp_7.cell4
  have sp_z7 := sp_7.cell5
  go_wp2_with fail
  refine (one_n _ K hK1).mono ?_
  rintro e w8 ⟨A8, n8, c8, rfl, one, b8⟩
  have hx0_8 := hx0_7.below b8
  have hy_8 := hy_7.below b8
  have kx0_8 := kx0_7.below b8
  have ky_8 := ky_7.below b8
  have o1__8 := o1__7.below b8
  have lo__8 := lo__7.below b8
  have lr__8 := lr__7.below b8
  have o2__8 := o2__7.below b8
  have hi__8 := hi__7.below b8
  have hr__8 := hr__7.below b8
  have sp_8 := sp_7.below b8 sp_7.lt
  have F8 := below_then F7 (Nat.le_refl _) b8
  have sp_u8 := sp_8.cell0
  have sp_v8 := sp_8.cell1
  have sp_w8 := sp_8.cell2
  have sp_x8 := sp_8.cell3
  have sp_y8 := sp_8.cell4
  have sp_z8 := sp_8.cell5
  go_wp2_with fail
  refine (add_n _ _ _ _ _ _ K (K + 1) _ _ (L + 1) _ rfl lo__8.nz one.nz (Nat.le_refl _) o3).mono ?_
  rintro e w9 ⟨A9, n9, c9, rfl, up, b9⟩
  have hx0_9 := hx0_8.below b9
  have hy_9 := hy_8.below b9
  have kx0_9 := kx0_8.below b9
  have ky_9 := ky_8.below b9
  have o1__9 := o1__8.below b9
  have lo__9 := lo__8.below b9
  have lr__9 := lr__8.below b9
  have o2__9 := o2__8.below b9
  have hi__9 := hi__8.below b9
  have hr__9 := hr__8.below b9
  have one_9 := one.below b9
  have sp_9 := sp_8.below b9 sp_8.lt
  have F9 := below_then F8 (Nat.le_refl _) b9
  have sp_u9 := sp_9.cell0
  have sp_v9 := sp_9.cell1
  have sp_w9 := sp_9.cell2
  have sp_x9 := sp_9.cell3
  have sp_y9 := sp_9.cell4
  have sp_z9 := sp_9.cell5
  go_wp2
  go_ret2
  exact ⟨_, _, _, rfl, up, F9⟩
end Go.Proofs.Ytabgniijlofapaa
