/-
  The program's span: enter where it goes on.
-/
import Derived.Test.YtabgniijlofapaaQ7
import Derived.Lib.BufferOwn
namespace Go.Proofs.Ytabgniijlofapaa
open Go.RowKit
set_option linter.unusedVariables false
set_option linter.unusedSimpArgs false

/-- The span's two numbers, as they stand: their magnitudes over their denominators. -/
def Spn (w : World) (g K : Nat) (p q : Rat) : Prop := ∃ (s t : Bool) (A B A' B' : Option Addr) (n c m d n' c' m' d' : Nat),
  Sp w g (.bool s) (.slice A n c) (.slice B m d) (.bool t) (.slice A' n' c') (.slice B' m' d') ∧ Iq w false A n c B m d p ∧ Iq w false A' n' c' B' m' d' q ∧ n ≤ K ∧ m ≤ K ∧ n' ≤ K ∧ m' ≤ K
section
variable {w a : World} {g : Nat} {A : Option Addr} {n c k X : Nat} {s t : Bool} {B C B' C' : Option Addr} {l d l' d' j e j' e' : Nat}
theorem Rd.six {xs : List Nat} (h : Rd w A n c xs) (hs : Sp w g (.bool s) (.slice B l d) (.slice C l' d') (.bool t) (.slice B' j e) (.slice C' j' e')) (i0 i1 i2 i3 i4 i5 : Nat) (u0 u1 u2 u3 u4 u5 : Value) : Rd ((((((w.setCell ⟨g, i0, none⟩ u0).setCell ⟨g, i1, none⟩ u1).setCell ⟨g, i2, none⟩ u2).setCell ⟨g, i3, none⟩ u3).setCell ⟨g, i4, none⟩ u4).setCell ⟨g, i5, none⟩ u5) A n c xs := by
  have ha := h.awayP hs
  exact (((((h.far ha _ _).far ha _ _).far ha _ _).far ha _ _).far ha _ _).far ha _ _
theorem Nz.six (h : Nz w A n c k X) (hs : Sp w g (.bool s) (.slice B l d) (.slice C l' d') (.bool t) (.slice B' j e) (.slice C' j' e')) (i0 i1 i2 i3 i4 i5 : Nat) (u0 u1 u2 u3 u4 u5 : Value) : Nz ((((((w.setCell ⟨g, i0, none⟩ u0).setCell ⟨g, i1, none⟩ u1).setCell ⟨g, i2, none⟩ u2).setCell ⟨g, i3, none⟩ u3).setCell ⟨g, i4, none⟩ u4).setCell ⟨g, i5, none⟩ u5) A n c k X :=
  ⟨h.1, h.2.elim fun xs hx => ⟨xs, hx.1.six hs _ _ _ _ _ _ _ _ _ _ _ _, hx.2⟩⟩
theorem Ny.six (h : Ny w A n c k X) (hs : Sp w g (.bool s) (.slice B l d) (.slice C l' d') (.bool t) (.slice B' j e) (.slice C' j' e')) (i0 i1 i2 i3 i4 i5 : Nat) (u0 u1 u2 u3 u4 u5 : Value) : Ny ((((((w.setCell ⟨g, i0, none⟩ u0).setCell ⟨g, i1, none⟩ u1).setCell ⟨g, i2, none⟩ u2).setCell ⟨g, i3, none⟩ u3).setCell ⟨g, i4, none⟩ u4).setCell ⟨g, i5, none⟩ u5) A n c k X :=
  ⟨h.1, h.2.six hs _ _ _ _ _ _ _ _ _ _ _ _⟩
theorem grown_six (h : Below a.heap.size a w) (i0 i1 i2 i3 i4 i5 : Nat) (u0 u1 u2 u3 u4 u5 : Value) : a.grownBy ((((((w.setCell ⟨g, i0, none⟩ u0).setCell ⟨g, i1, none⟩ u1).setCell ⟨g, i2, none⟩ u2).setCell ⟨g, i3, none⟩ u3).setCell ⟨g, i4, none⟩ u4).setCell ⟨g, i5, none⟩ u5) (some g) := by
  have h0 : a.grownBy w (some g) := Go.Lib.grownBy_below (World.grownBy.refl a _) h
  exact Go.Lib.grownBy_setB (Go.Lib.grownBy_setB (Go.Lib.grownBy_setB (Go.Lib.grownBy_setB (Go.Lib.grownBy_setB (Go.Lib.grownBy_setB h0 _ _) _ _) _ _) _ _) _ _) _ _
theorem Sp.stor2 {v0 v1 v2 v3 v4 v5 u0 u1 u2 u3 u4 u5 : Value} (h : Sp w g v0 v1 v2 v3 v4 v5) : Sp ((((((w.setCell ⟨g, 3, none⟩ u3).setCell ⟨g, 4, none⟩ u4).setCell ⟨g, 5, none⟩ u5).setCell ⟨g, 0, none⟩ u0).setCell ⟨g, 1, none⟩ u1).setCell ⟨g, 2, none⟩ u2) g u0 u1 u2 u3 u4 u5 := (((((h.set3 u3).set4 u4).set5 u5).set0 u0).set1 u1).set2 u2
end
set_option maxHeartbeats 2000000 in
theorem enter_3 (g : Nat) (s t : Bool) (A B A' B' : Option Addr) (n c m d n' c' m' d' : Nat) (xs ys xs' ys' : List Nat) (X D X' D' K : Nat) (w : World) (hs : Sp w g (.bool s) (.slice A n c) (.slice B m d) (.bool t) (.slice A' n' c') (.slice B' m' d')) (hx : Rd w A n c xs) (hy : Rd w B m d ys) (kx : Rd w A' n' c' xs') (ky : Rd w B' m' d' ys') (hX : val xs = X) (hD : rden ys = D) (hX' : val xs' = X') (hD' : rden ys' = D') (hK : K ≤ 1000) (hK1 : 1 ≤ K) (hn : n ≤ K) (hm : m ≤ K) (hn' : n' ≤ K) (hm' : m' ≤ K) (L LR H HR : Nat) (hL : X / D = L) (hLR : X % D = LR) (hH : X' / D' = H) (hHR : X' % D' = HR) (h0 : LR ≠ 0) (h1 : L = H) :
    Calls Try.prog 97 #[.pointer (some ⟨g, 0, none⟩)] w fun e w' => ∃ A1 n1 c1, e = .returned (.tuple #[.slice A1 n1 c1, .bool true]) ∧ Ny w' A1 n1 c1 (K + 1) L ∧ w.grownBy w' (some g) ∧
      ∃ A2 n2 c2 B2 m2 d2 A3 n3 c3 B3 m3 d3, Sp w' g (.bool false) (.slice A2 n2 c2) (.slice B2 m2 d2) (.bool false) (.slice A3 n3 c3) (.slice B3 m3 d3) ∧ Nz w' A2 n2 c2 K D' ∧ Nz w' B2 m2 d2 K HR ∧ Nz w' A3 n3 c3 K D ∧ Nz w' B3 m3 d3 K LR := by
  have hx0 := hx.nz hn
  have kx0 := kx.nz hn'
  rw [hX] at hx0
  rw [hX'] at kx0
  have HD := hide hD
  have HD' := hide hD'
  have HD0 : 0 < D := by have := rden_pos ys; omega
  have HD0' : 0 < D' := by have := rden_pos ys'; omega
  have o1 : K ≤ 1048576 := by omega
  have o2 : K ≤ 65536 := by omega
  have o3 : K + 1 ≤ 1048576 := by omega
  have HL := hide hL
  have HLR := hide hLR
  have HH := hide hH
  have HHR := hide hHR
  have HE0 := hide (show decide (LR = 0) = false by simpa using h0)
  have HC := hide (show sg L H = 0 from sg_eq h1)
  clear hL hLR hH hHR h0
  clear hX hD hX' hD' hx kx
  have sp_u0 := hs.cell0
  have sp_v0 := hs.cell1
  have sp_w0 := hs.cell2
  have sp_x0 := hs.cell3
  have sp_y0 := hs.cell4
  have sp_z0 := hs.cell5
  have glt := hs.lt
  go_enter Try.func97, Try.ntmps97
  go_wp2_with fail
  have hx0_1 := hx0.drew
  have hy_1 := hy.drew
  have kx0_1 := kx0.drew
  have ky_1 := ky.drew
  have sp_1 := hs.drew
  have F1 := (Below.refl w.heap.size w).drew
  go_region_held3 (fun w' => w'.cell? ⟨g, 0, none⟩ = some (.bool s) ∧ w'.cell? ⟨g, 1, none⟩ = some (.slice A n c) ∧ w'.cell? ⟨g, 2, none⟩ = some (.slice B m d) ∧ w'.cell? ⟨g, 3, none⟩ = some (.bool t) ∧ w'.cell? ⟨g, 4, none⟩ = some (.slice A' n' c') ∧ w'.cell? ⟨g, 5, none⟩ = some (.slice B' m' d'))
    (first
      | with_reducible exact ⟨sp_3.cell0, sp_3.cell1, sp_3.cell2, sp_3.cell3, sp_3.cell4, sp_3.cell5⟩
      | with_reducible exact ⟨sp_2.cell0, sp_2.cell1, sp_2.cell2, sp_2.cell3, sp_2.cell4, sp_2.cell5⟩
      | with_reducible exact ⟨sp_1.cell0, sp_1.cell1, sp_1.cell2, sp_1.cell3, sp_1.cell4, sp_1.cell5⟩
      | fail)
    (first
      | (go_at_call 57; (with_reducible refine (divisor_n _ _ _ _ _ _ _ ys K D _ HD.out hy_1 hm hK1 o1).mono ?_); rintro e w2 ⟨A2, n2, c2, rfl, o1_, b2⟩; have hx0_2 := hx0_1.below b2; have hy_2 := hy_1.below b2; have kx0_2 := kx0_1.below b2; have ky_2 := ky_1.below b2; have sp_2 := sp_1.below b2 sp_1.lt; have F2 := below_then F1 (Nat.le_refl _) b2)
      | (go_at_call 96; (with_reducible refine (div_n _ _ _ _ _ _ K K X D _ _ _ HL.out HLR.out HD0 hx0_2 o1_ o2 o2).mono ?_); rintro e w3 ⟨A3, n3, c3, B3, m3, d3, rfl, lo_, lr_, b3⟩; have hx0_3 := hx0_2.below b3; have hy_3 := hy_2.below b3; have kx0_3 := kx0_2.below b3; have ky_3 := ky_2.below b3; have o1__3 := o1_.below b3; have sp_3 := sp_2.below b3 sp_2.lt; have F3 := below_then F2 (Nat.le_refl _) b3)
      | fail)
  have sp_u3 := sp_3.cell0
  have sp_v3 := sp_3.cell1
  have sp_w3 := sp_3.cell2
  have sp_x3 := sp_3.cell3
  have sp_y3 := sp_3.cell4
  have sp_z3 := sp_3.cell5
  have e0_ := lr_.nil false HE0.out
  go_wp2_with fail
  have hx0_4 := hx0_3.drew
  have hy_4 := hy_3.drew
  have kx0_4 := kx0_3.drew
  have ky_4 := ky_3.drew
  have o1__4 := o1__3.drew
  have lo__4 := lo_.drew
  have lr__4 := lr_.drew
  have sp_4 := sp_3.drew
  have F4 := F3.drew
  go_region_held3 (fun w' => w'.cell? ⟨g, 0, none⟩ = some (.bool s) ∧ w'.cell? ⟨g, 1, none⟩ = some (.slice A n c) ∧ w'.cell? ⟨g, 2, none⟩ = some (.slice B m d) ∧ w'.cell? ⟨g, 3, none⟩ = some (.bool t) ∧ w'.cell? ⟨g, 4, none⟩ = some (.slice A' n' c') ∧ w'.cell? ⟨g, 5, none⟩ = some (.slice B' m' d'))
    (first
      | with_reducible exact ⟨sp_6.cell0, sp_6.cell1, sp_6.cell2, sp_6.cell3, sp_6.cell4, sp_6.cell5⟩
      | with_reducible exact ⟨sp_5.cell0, sp_5.cell1, sp_5.cell2, sp_5.cell3, sp_5.cell4, sp_5.cell5⟩
      | with_reducible exact ⟨sp_4.cell0, sp_4.cell1, sp_4.cell2, sp_4.cell3, sp_4.cell4, sp_4.cell5⟩
      | fail)
    (first
      | (go_at_call 57; (with_reducible refine (divisor_n _ _ _ _ _ _ _ ys' K D' _ HD'.out ky_4 hm' hK1 o1).mono ?_); rintro e w5 ⟨A5, n5, c5, rfl, o2_, b5⟩; have hx0_5 := hx0_4.below b5; have hy_5 := hy_4.below b5; have kx0_5 := kx0_4.below b5; have ky_5 := ky_4.below b5; have o1__5 := o1__4.below b5; have lo__5 := lo__4.below b5; have lr__5 := lr__4.below b5; have sp_5 := sp_4.below b5 sp_4.lt; have F5 := below_then F4 (Nat.le_refl _) b5)
      | (go_at_call 96; (with_reducible refine (div_n _ _ _ _ _ _ K K X' D' _ _ _ HH.out HHR.out HD0' kx0_5 o2_ o2 o2).mono ?_); rintro e w6 ⟨A6, n6, c6, B6, m6, d6, rfl, hi_, hr_, b6⟩; have hx0_6 := hx0_5.below b6; have hy_6 := hy_5.below b6; have kx0_6 := kx0_5.below b6; have ky_6 := ky_5.below b6; have o1__6 := o1__5.below b6; have lo__6 := lo__5.below b6; have lr__6 := lr__5.below b6; have o2__6 := o2_.below b6; have sp_6 := sp_5.below b6 sp_5.lt; have F6 := below_then F5 (Nat.le_refl _) b6)
      | fail)
  have sp_u6 := sp_6.cell0
  have sp_v6 := sp_6.cell1
  have sp_w6 := sp_6.cell2
  have sp_x6 := sp_6.cell3
  have sp_y6 := sp_6.cell4
  have sp_z6 := sp_6.cell5
  go_wp2_with fail
  refine (cmp_n _ _ _ _ _ _ K K _ _ 0 _ HC.out lo__6.nz hi_.nz o1 o1).mono ?_
  rintro e w7 ⟨rfl, b7⟩
  have hx0_7 := hx0_6.below b7
  have hy_7 := hy_6.below b7
  have kx0_7 := kx0_6.below b7
  have ky_7 := ky_6.below b7
  have o1__7 := o1__6.below b7
  have lo__7 := lo__6.below b7
  have lr__7 := lr__6.below b7
  have o2__7 := o2__6.below b7
  have hi__7 := hi_.below b7
  have hr__7 := hr_.below b7
  have sp_7 := sp_6.below b7 sp_6.lt
  have F7 := below_then F6 (Nat.le_refl _) b7
  have sp_u7 := sp_7.cell0
  have sp_v7 := sp_7.cell1
  have sp_w7 := sp_7.cell2
  have sp_x7 := sp_7.cell3
  have sp_y7 := sp_7.cell4
  have sp_z7 := sp_7.cell5
  go_wp2_with fail
  have hx0_8 := hx0_7.drew
  have hy_8 := hy_7.drew
  have kx0_8 := kx0_7.drew
  have ky_8 := ky_7.drew
  have o1__8 := o1__7.drew
  have lo__8 := lo__7.drew
  have lr__8 := lr__7.drew
  have o2__8 := o2__7.drew
  have hi__8 := hi__7.drew
  have hr__8 := hr__7.drew
  have sp_8 := sp_7.drew
  have F8 := F7.drew
  go_region_with (first
      | (go_at_call 57; (with_reducible refine (divisor_n _ _ _ _ _ _ _ ys' K D' _ HD'.out ky_8 hm' hK1 o1).mono ?_); rintro e w9 ⟨A9, n9, c9, rfl, o3_, b9⟩; have hx0_9 := hx0_8.below b9; have hy_9 := hy_8.below b9; have kx0_9 := kx0_8.below b9; have ky_9 := ky_8.below b9; have o1__9 := o1__8.below b9; have lo__9 := lo__8.below b9; have lr__9 := lr__8.below b9; have o2__9 := o2__8.below b9; have hi__9 := hi__8.below b9; have hr__9 := hr__8.below b9; have sp_9 := sp_8.below b9 sp_8.lt; have F9 := below_then F8 (Nat.le_refl _) b9; have sp_u9 := sp_9.cell0; have sp_v9 := sp_9.cell1; have sp_w9 := sp_9.cell2; have sp_x9 := sp_9.cell3; have sp_y9 := sp_9.cell4; have sp_z9 := sp_9.cell5; have sp_f09 := sp_9.frozen 0; have sp_f19 := sp_9.frozen 1; have sp_f29 := sp_9.frozen 2; have sp_f39 := sp_9.frozen 3; have sp_f49 := sp_9.frozen 4; have sp_f59 := sp_9.frozen 5)
      | (go_at_call 57; (with_reducible refine (divisor_n _ _ _ _ _ _ _ ys K D _ HD.out hy_9 hm hK1 o1).mono ?_); rintro e w10 ⟨A10, n10, c10, rfl, o4_, b10⟩; have hx0_10 := hx0_9.below b10; have hy_10 := hy_9.below b10; have kx0_10 := kx0_9.below b10; have ky_10 := ky_9.below b10; have o1__10 := o1__9.below b10; have lo__10 := lo__9.below b10; have lr__10 := lr__9.below b10; have o2__10 := o2__9.below b10; have hi__10 := hi__9.below b10; have hr__10 := hr__9.below b10; have o3__10 := o3_.below b10; have sp_10 := sp_9.below b10 sp_9.lt; have F10 := below_then F9 (Nat.le_refl _) b10; have sp_u10 := sp_10.cell0; have sp_v10 := sp_10.cell1; have sp_w10 := sp_10.cell2; have sp_x10 := sp_10.cell3; have sp_y10 := sp_10.cell4; have sp_z10 := sp_10.cell5; have sp_f010 := sp_10.frozen 0; have sp_f110 := sp_10.frozen 1; have sp_f210 := sp_10.frozen 2; have sp_f310 := sp_10.frozen 3; have sp_f410 := sp_10.frozen 4; have sp_f510 := sp_10.frozen 5)
      | fail)
  all_goals (go_wp2; go_ret2; first | exact ⟨_, _, _, rfl, (lo__10.mono (by omega)).six sp_10 _ _ _ _ _ _ _ _ _ _ _ _, grown_six F10 _ _ _ _ _ _ _ _ _ _ _ _, _, _, _, _, _, _, _, _, _, _, _, _, sp_10.stor, o3__10.six sp_10 _ _ _ _ _ _ _ _ _ _ _ _, hr__10.nz.six sp_10 _ _ _ _ _ _ _ _ _ _ _ _, o4_.six sp_10 _ _ _ _ _ _ _ _ _ _ _ _, lr__10.nz.six sp_10 _ _ _ _ _ _ _ _ _ _ _ _⟩ | exact ⟨_, _, _, rfl, (lo__10.mono (by omega)).six sp_10 _ _ _ _ _ _ _ _ _ _ _ _, grown_six F10 _ _ _ _ _ _ _ _ _ _ _ _, _, _, _, _, _, _, _, _, _, _, _, _, sp_10.stor2, o3__10.six sp_10 _ _ _ _ _ _ _ _ _ _ _ _, hr__10.nz.six sp_10 _ _ _ _ _ _ _ _ _ _ _ _, o4_.six sp_10 _ _ _ _ _ _ _ _ _ _ _ _, lr__10.nz.six sp_10 _ _ _ _ _ _ _ _ _ _ _ _⟩ | fail)
end Go.Proofs.Ytabgniijlofapaa
