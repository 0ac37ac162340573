/-
  Signs of sums and products; IntegerCompare for long numbers.
-/
import Derived.Test.YtefcpcekoihgjaaNegLaw
import Derived.Deep.RegionHeld3
namespace Go.Proofs.Ytefcpcekoihgjaa
open Go.RowKit
set_option linter.unusedVariables false
set_option linter.unusedSimpArgs false

theorem sz_bound (z : Int) : -1 ≤ sz z ∧ sz z ≤ 1 := by
  unfold sz
  (repeat' split) <;> simp
theorem sz_mul (a b : Int) : sz (a * b) = sz a * sz b := by
  rcases Int.lt_trichotomy a 0 with ha | ha | ha
  · rcases Int.lt_trichotomy b 0 with hb | hb | hb
    · have := Int.mul_pos_of_neg_of_neg ha hb
      unfold sz
      rw [if_neg (by omega), if_neg (by omega), if_neg (by omega), if_pos ha, if_neg (by omega), if_pos hb]; rfl
    · subst hb; rw [Int.mul_zero]; unfold sz; simp
    · have := Int.mul_neg_of_neg_of_pos ha hb
      unfold sz
      rw [if_neg (by omega), if_pos (by omega), if_neg (by omega), if_pos ha, if_neg (by omega), if_neg (by omega)]; rfl
  · subst ha; rw [Int.zero_mul]; unfold sz; simp
  · rcases Int.lt_trichotomy b 0 with hb | hb | hb
    · have := Int.mul_neg_of_pos_of_neg ha hb
      unfold sz
      rw [if_neg (by omega), if_pos (by omega), if_neg (by omega), if_neg (by omega), if_neg (by omega), if_pos hb]; rfl
    · subst hb; rw [Int.mul_zero]; unfold sz; simp
    · have := Int.mul_pos ha hb
      unfold sz
      rw [if_neg (by omega), if_neg (by omega), if_neg (by omega), if_neg (by omega), if_neg (by omega), if_neg (by omega)]; rfl
theorem sz_tri {x y z : Int} (h1 : sz (x - y) ≤ 0) (h2 : sz (y - z) ≤ 0) : ¬ 0 < sz (x - z) := by
  unfold sz at h1 h2 ⊢
  (repeat' split) <;> (repeat' split at h1) <;> (repeat' split at h2) <;> omega
theorem law_cmp_long (sa sb sc : Bool) (Aa Ab Ac : Option Addr) (na nb_ nc ca cb cc : Nat) (w : World) (hn : ¬ (na ≤ 8 ∧ nb_ ≤ 8 ∧ nc ≤ 8)) :
    Calls Try.prog 7 #[.agg #[.bool sa, .slice Aa na ca], .agg #[.bool sb, .slice Ab nb_ cb], .agg #[.bool sc, .slice Ac nc cc]] w fun e w' => e = .returned (.bool true) ∧ Below w.heap.size w w' := by
  have hf := hide (decide_eq_false hn)
  clear hn
  have ba_1 : Sb ((w).alloc (EI sa Aa na ca)) (w.heap.size) (.bool sa) (.slice Aa na ca) := by have h_ := Sb.new (w) (.bool sa) (.slice Aa na ca); exact h_
  have F1 := (Below.refl w.heap.size w).alloc (Nat.le_refl _) (EI sa Aa na ca)
  have ba_2 := ba_1.alloc (EI sb Ab nb_ cb)
  have bb_2 : Sb (((w).alloc (EI sa Aa na ca)).alloc (EI sb Ab nb_ cb)) (w.heap.size + 1) (.bool sb) (.slice Ab nb_ cb) := by have h_ := Sb.new ((w).alloc (EI sa Aa na ca)) (.bool sb) (.slice Ab nb_ cb); simp only [World.size_alloc] at h_; exact h_
  have F2 := F1.alloc F1.size (EI sb Ab nb_ cb)
  have ba_3 := ba_2.alloc (EI sc Ac nc cc)
  have bb_3 := bb_2.alloc (EI sc Ac nc cc)
  have bc_3 : Sb ((((w).alloc (EI sa Aa na ca)).alloc (EI sb Ab nb_ cb)).alloc (EI sc Ac nc cc)) (w.heap.size + 2) (.bool sc) (.slice Ac nc cc) := by have h_ := Sb.new (((w).alloc (EI sa Aa na ca)).alloc (EI sb Ab nb_ cb)) (.bool sc) (.slice Ac nc cc); simp only [World.size_alloc] at h_; exact h_
  have F3 := F2.alloc F2.size (EI sc Ac nc cc)
  go_enter Try.func7, Try.ntmps7
  go_wp2_with fail
  refine (awake_int _).mono ?_
  rintro e w4 ⟨rfl, b4⟩
  have ba_4 := ba_3.below b4 ba_3.lt
  have bb_4 := bb_3.below b4 bb_3.lt
  have bc_4 := bc_3.below b4 bc_3.lt
  have F4 := below_then F3 (Nat.le_refl _) b4
  have ba_u4 := ba_4.cell0
  have ba_v4 := ba_4.cell1
  have bb_u4 := bb_4.cell0
  have bb_v4 := bb_4.cell1
  have bc_u4 := bc_4.cell0
  have bc_v4 := bc_4.cell1
  go_wp2_with fail
  refine (few_int _ _ _ _ _ _ _ _ _ _ _ _ _ _ hf.out).mono ?_
  rintro e w5 ⟨rfl, b5⟩
  have ba_5 := ba_4.below b5 ba_4.lt
  have bb_5 := bb_4.below b5 bb_4.lt
  have bc_5 := bc_4.below b5 bc_4.lt
  have F5 := below_then F4 (Nat.le_refl _) b5
  have ba_u5 := ba_5.cell0
  have ba_v5 := ba_5.cell1
  have bb_u5 := bb_5.cell0
  have bb_v5 := bb_5.cell1
  have bc_u5 := bc_5.cell0
  have bc_v5 := bc_5.cell1
  go_wp2
  go_ret
  exact ⟨rfl, F5⟩
end Go.Proofs.Ytefcpcekoihgjaa
