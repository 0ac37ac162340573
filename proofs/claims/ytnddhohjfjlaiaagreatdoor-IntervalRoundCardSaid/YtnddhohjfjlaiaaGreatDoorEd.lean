/-
  The parts of a rational number, shifts of either sign.
-/
import Derived.Test.YtnddhohjfjlaiaaGreatDoorEc
namespace Go.Proofs.YtnddhohjfjlaiaaGreatDoor
open Go.RowKit
set_option linter.unusedVariables false
set_option linter.unusedSimpArgs false

def GZ2 (w : World) (k l X Y : Nat) (e : Ending) (w' : World) : Prop := ∃ A n c B m d, e = .returned (.tuple #[.slice A n c, .slice B m d]) ∧ Nz w' A n c k X ∧ Nz w' B m d l Y ∧ Below w.heap.size w w'
theorem parts_1 (s : Bool) (A : Option Addr) (n c : Nat) (B : Option Addr) (m d k l X Y : Nat) (w : World) (hY : Y = 0) (h : Nz w A n c k X) (h2 : Nz w B m d l Y) (hl : 1 ≤ l ∧ l ≤ 1048576) :
    Calls Tryz.prog 48 #[.agg #[.bool s, .slice A n c, .slice B m d]] w (GZ2 w k l X 1) := by
  have HB := hide (show bl Y = 0 by rw [hY]; rfl)
  have hl1 := hl.1
  have hl2 := hl.2
  clear hY hl
  have h_1 := h.alloc (EQ s A n c B m d)
  have h2_1 := h2.alloc (EQ s A n c B m d)
  have bx_1 : Sq ((w).alloc (EQ s A n c B m d)) (w.heap.size) (.bool s) (.slice A n c) (.slice B m d) := by have h_ := Sq.new (w) (.bool s) (.slice A n c) (.slice B m d); exact h_
  have F1 := (Below.refl w.heap.size w).alloc (Nat.le_refl _) (EQ s A n c B m d)
  go_enter Tryz.func48, Tryz.ntmps48
  have bx_u1 := bx_1.cell0
  have bx_v1 := bx_1.cell1
  have bx_w1 := bx_1.cell2
  go_wp2_with fail
  refine (bits_n _ _ _ _ Y 0 _ HB.out h2_1 hl2).mono ?_
  rintro e w' ⟨rfl, rfl⟩
  go_wp2_with fail
  have h_2 := h_1.drew
  have h2_2 := h2_1.drew
  have bx_2 := bx_1.drew
  have F2 := F1.drew
  go_region_held3 (fun w' => w'.cell? ⟨w.heap.size, 0, none⟩ = some (.bool s) ∧ w'.cell? ⟨w.heap.size, 1, none⟩ = some (.slice A n c) ∧ w'.cell? ⟨w.heap.size, 2, none⟩ = some (.slice B m d))
    (first
      | with_reducible exact ⟨bx_3.cell0, bx_3.cell1, bx_3.cell2⟩
      | with_reducible exact ⟨bx_2.cell0, bx_2.cell1, bx_2.cell2⟩
      | fail)
    (first
      | (go_at_call 33; (with_reducible refine (one_n _ l hl1).mono ?_); rintro e w3 ⟨A3, n3, c3, rfl, o, b3⟩; have h_3 := h_2.below b3; have h2_3 := h2_2.below b3; have bx_3 := bx_2.below b3 bx_2.lt; have F3 := below_then F2 (Nat.le_refl _) b3)
      | fail)
  have bx_u3 := bx_3.cell0
  have bx_v3 := bx_3.cell1
  have bx_w3 := bx_3.cell2
  go_wp2
  go_ret2
  exact ⟨_, _, _, _, _, _, rfl, h_3, o.nz, F3⟩
theorem parts_2 (s : Bool) (A : Option Addr) (n c : Nat) (B : Option Addr) (m d k l X Y : Nat) (w : World) (hY : Y ≠ 0) (h : Nz w A n c k X) (h2 : Nz w B m d l Y) (hl : 1 ≤ l ∧ l ≤ 1048576) :
    Calls Tryz.prog 48 #[.agg #[.bool s, .slice A n c, .slice B m d]] w (GZ2 w k l X Y) := by
  obtain ⟨r, hr⟩ : ∃ r, bl Y = r := ⟨_, rfl⟩
  have e0 : ((r : Int) == 0) = false := by have := bl_pos hY; simp; omega
  have HB := hide hr
  have hl2 := hl.2
  clear hY hl hr
  have h_1 := h.alloc (EQ s A n c B m d)
  have h2_1 := h2.alloc (EQ s A n c B m d)
  have bx_1 : Sq ((w).alloc (EQ s A n c B m d)) (w.heap.size) (.bool s) (.slice A n c) (.slice B m d) := by have h_ := Sq.new (w) (.bool s) (.slice A n c) (.slice B m d); exact h_
  have F1 := (Below.refl w.heap.size w).alloc (Nat.le_refl _) (EQ s A n c B m d)
  go_enter Tryz.func48, Tryz.ntmps48
  have bx_u1 := bx_1.cell0
  have bx_v1 := bx_1.cell1
  have bx_w1 := bx_1.cell2
  go_wp2_with fail
  refine (bits_n _ _ _ _ Y r _ HB.out h2_1 hl2).mono ?_
  rintro e w' ⟨rfl, rfl⟩
  go_wp2_with fail
  go_quiet (fail)
  go_wp2
  go_ret2
  exact ⟨_, _, _, _, _, _, rfl, h_1.below (below_drewN (Below.refl _ _) _), h2_1.below (below_drewN (Below.refl _ _) _), below_drewN F1 _⟩
theorem parts_n (s : Bool) (A : Option Addr) (n c : Nat) (B : Option Addr) (m d k l X Y D : Nat) (w : World) (hD : (if Y = 0 then 1 else Y) = D) (h : Nz w A n c k X) (h2 : Nz w B m d l Y) (hl : 1 ≤ l ∧ l ≤ 1048576) :
    Calls Tryz.prog 48 #[.agg #[.bool s, .slice A n c, .slice B m d]] w (GZ2 w k l X D) := by
  by_cases hY : Y = 0
  · rw [if_pos hY] at hD
    subst hD
    exact parts_1 s A n c B m d k l X Y w hY h h2 hl
  · rw [if_neg hY] at hD
    subst hD
    exact parts_2 s A n c B m d k l X Y w hY h h2 hl
theorem times_n (A : Option Addr) (n c k j X Y : Nat) (z : Int) (w : World) (hY : X * 2 ^ z.toNat = Y) (h : Nz w A n c k X) (hl : Y < pw j) (hk : k ≤ 1048576) (hz : z ≤ 1048576) :
    Calls Tryz.prog 76 #[.slice A n c, .int .i64 z] w (GY w j Y) := by
  have hm : max z 0 = ((z.toNat : Nat) : Int) := by omega
  obtain ⟨i, hi⟩ : ∃ i, z.toNat = i := ⟨_, rfl⟩
  rw [hi] at hm hY
  have hi2 : i ≤ 1048576 := by omega
  have HY := hide hY
  have HL := hide hl
  clear hY hl hi
  go_enter Tryz.func76, Tryz.ntmps76
  go_wp2_with fail
  refine (shl_n _ _ _ _ j X Y i _ _ rfl HY.out h HL.out hk hi2).mono ?_
  rintro e w1 ⟨A1, n1, c1, rfl, r1, b1⟩
  go_wp2
  go_ret
  exact ⟨A1, n1, c1, rfl, r1, b1⟩
end Go.Proofs.YtnddhohjfjlaiaaGreatDoor
