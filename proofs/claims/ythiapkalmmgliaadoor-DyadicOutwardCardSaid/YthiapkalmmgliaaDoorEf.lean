/-
  A number as a multiple of a power of 2.
-/
import Derived.Test.YthiapkalmmgliaaDoorEe
namespace Go.Proofs.YthiapkalmmgliaaDoor
open Go.RowKit
set_option linter.unusedVariables false
set_option linter.unusedSimpArgs false

theorem multiple_y (s : Bool) (A : Option Addr) (n c : Nat) (e z : Int) (K l j X Y : Nat) (w : World) (hz : e - z = (K : Int)) (hK : K ≤ 4000) (he : -2000000 ≤ e ∧ e ≤ 2000000) (hY : X * 2 ^ K = Y) (h : Nz w A n c l X) (hl : l ≤ 1000000) (hj : Y < pw j) (hJ : j ≤ 1000000) :
    Calls Tryd.prog 64 #[.agg #[.bool s, .slice A n c, .int .i64 e], .int .i64 z] w (GM w s j Y) := by
  obtain ⟨K1, hK1⟩ : ∃ k, K / 2 = k := ⟨_, rfl⟩
  obtain ⟨K2, hK2⟩ : ∃ k, K - K / 2 = k := ⟨_, rfl⟩
  obtain ⟨X1, hX1⟩ : ∃ k, X * 2 ^ K1 = k := ⟨_, rfl⟩
  have hX2 : X1 * 2 ^ K2 = Y := by rw [← hX1, Nat.mul_assoc, ← Nat.pow_add, show K1 + K2 = K by omega, hY]
  have hX3 : X1 < pw j := Nat.lt_of_le_of_lt (by rw [← hX2]; exact Nat.le_mul_of_pos_right _ (Nat.two_pow_pos _)) hj
  have HX1 := hide hX1
  have HX2 := hide hX2
  have HX3 := hide hX3
  have HJ := hide hj
  have HK1 := hide (show (K : Int) / 2 = (K1 : Int) by omega)
  have HK2 := hide (show (K : Int) - (K : Int) / 2 = (K2 : Int) by omega)
  have k1 : K1 ≤ 1048576 := by omega
  have k2 : K2 ≤ 1048576 := by omega
  have l1 : l ≤ 1048576 := by omega
  have l2 : j ≤ 1048576 := by omega
  have he1 := he.1
  have he2 := he.2
  obtain rfl : z = e - (K : Int) := by omega
  clear hK1 hK2 hX1 hX2 hX3 hY hj hz he
  have h_1 := h.alloc (EY s A n c e)
  have bx_1 : Sy ((w).alloc (EY s A n c e)) (w.heap.size) (.bool s) (.slice A n c) (.int .i64 e) := by have h_ := Sy.new (w) (.bool s) (.slice A n c) (.int .i64 e); exact h_
  have F1 := (Below.refl w.heap.size w).alloc (Nat.le_refl _) (EY s A n c e)
  have h_2 := h_1.alloc E0
  have bx_2 := bx_1.alloc E0
  have br_2 : Sb (((w).alloc (EY s A n c e)).alloc E0) (w.heap.size + 1) (.bool false) (.slice none 0 0) := by have h_ := Sb.new ((w).alloc (EY s A n c e)) (.bool false) (.slice none 0 0); simp only [World.size_alloc] at h_; exact h_
  have F2 := F1.alloc F1.size E0
  go_enter Tryd.func64, Tryd.ntmps64
  have bx_u2 := bx_2.cell0
  have bx_v2 := bx_2.cell1
  have bx_w2 := bx_2.cell2
  have br_u2 := br_2.cell0
  have br_v2 := br_2.cell1
  go_wp2_with fail
  refine (shl_n _ _ _ _ j X X1 K1 _ _ (by first | exact HK1.out | (have := HK1.out; go_num)) HX1.out h_2 HX3.out l1 k1).mono ?_
  rintro e w3 ⟨A3, n3, c3, rfl, y1, b3⟩
  have h_3 := h_2.below b3
  have bx_3 := bx_2.below b3 bx_2.lt
  have br_3 := br_2.below b3 br_2.lt
  have F3 := below_then F2 (Nat.le_refl _) b3
  have bx_u3 := bx_3.cell0
  have bx_v3 := bx_3.cell1
  have bx_w3 := bx_3.cell2
  have br_u3 := br_3.cell0
  have br_v3 := br_3.cell1
  go_wp2_with fail
  refine (shl_n _ _ _ _ j X1 Y K2 _ _ (by first | exact HK2.out | (have := HK2.out; go_num)) HX2.out y1.nz HJ.out l2 k2).mono ?_
  rintro e w4 ⟨A4, n4, c4, rfl, y2, b4⟩
  have h_4 := h_3.below b4
  have y1_4 := y1.below b4
  have bx_4 := bx_3.below b4 bx_3.lt
  have br_4 := br_3.below b4 br_3.lt
  have F4 := below_then F3 (Nat.le_refl _) b4
  have bx_u4 := bx_4.cell0
  have bx_v4 := bx_4.cell1
  have bx_w4 := bx_4.cell2
  have br_u4 := br_4.cell0
  have br_v4 := br_4.cell1
  have br_f04 := br_4.frozen 0
  have br_f14 := br_4.frozen 1
  go_wp2_with fail
  refine bodyPost_ret (v := .agg #[.bool s, .slice A4 n4 c4]) (by simp [results, Tryd.results64, go_sem, (br_4.set0 (.bool s)).cell0, ((br_4.set0 (.bool s)).set1 (.slice A4 n4 c4)).cell1]) rfl ⟨_, _, _, rfl, y2.far br_4 _ _, below_stor F4 (by omega)⟩
end Go.Proofs.YthiapkalmmgliaaDoor
