/-
  Rounding with a number of bits out of range; Down and Up hand on.
-/
import Derived.Test.YthiapkalmmgliaaDoorK12
namespace Go.Proofs.YthiapkalmmgliaaDoor
open Go.RowKit
set_option linter.unusedVariables false
set_option linter.unusedSimpArgs false

theorem toward_bad (s : Bool) (A : Option Addr) (n c : Nat) (B : Option Addr) (m d : Nat) (k : Int) (up : Bool) (w : World) (hk : k < 1 ∨ 4096 < k) :
    Calls Tryd.prog 58 #[.agg #[.bool s, .slice A n c, .slice B m d], .int .i64 k, .bool up] w (GDE w 0 1) := by
  by_cases h1 : k < 1
  · have d1 : decide (k < 1) = true := by simp; omega
    clear hk h1
    have bx_1 : Sq ((w).alloc (EQ s A n c B m d)) (w.heap.size) (.bool s) (.slice A n c) (.slice B m d) := by have h_ := Sq.new (w) (.bool s) (.slice A n c) (.slice B m d); exact h_
    have F1 := (Below.refl w.heap.size w).alloc (Nat.le_refl _) (EQ s A n c B m d)
    have bx_2 := bx_1.alloc EY0
    have br_2 : Sy (((w).alloc (EQ s A n c B m d)).alloc EY0) (w.heap.size + 1) (.bool false) (.slice none 0 0) (.int .i64 0) := by have h_ := Sy.new ((w).alloc (EQ s A n c B m d)) (.bool false) (.slice none 0 0) (.int .i64 0); simp only [World.size_alloc] at h_; exact h_
    have F2 := F1.alloc F1.size EY0
    go_enter Tryd.func58, Tryd.ntmps58
    have bx_u2 := bx_2.cell0
    have bx_v2 := bx_2.cell1
    have bx_w2 := bx_2.cell2
    have br_u2 := br_2.cell0
    have br_v2 := br_2.cell1
    have br_w2 := br_2.cell2
    have br_f02 := br_2.frozen 0
    have br_f12 := br_2.frozen 1
    have br_f22 := br_2.frozen 2
    go_wp2_with fail
    refine bodyPost_ret (v := .tuple #[.agg #[.bool false, .slice none 0 0, .int .i64 0], .int .i64 1]) (by simp [results, Tryd.results58, go_sem, (br_2.set0 (.bool false)).cell0, ((br_2.set0 (.bool false)).set1 (.slice none 0 0)).cell1, (((br_2.set0 (.bool false)).set1 (.slice none 0 0)).set2 (.int .i64 0)).cell2]) rfl ⟨_, _, _, _, _, rfl, cy_zero _, F2⟩
  · have d1 : decide (k < 1) = false := by simp; omega
    have d2 : decide (4096 < k) = true := by simp; omega
    clear hk h1
    have bx_1 : Sq ((w).alloc (EQ s A n c B m d)) (w.heap.size) (.bool s) (.slice A n c) (.slice B m d) := by have h_ := Sq.new (w) (.bool s) (.slice A n c) (.slice B m d); exact h_
    have F1 := (Below.refl w.heap.size w).alloc (Nat.le_refl _) (EQ s A n c B m d)
    have bx_2 := bx_1.alloc EY0
    have br_2 : Sy (((w).alloc (EQ s A n c B m d)).alloc EY0) (w.heap.size + 1) (.bool false) (.slice none 0 0) (.int .i64 0) := by have h_ := Sy.new ((w).alloc (EQ s A n c B m d)) (.bool false) (.slice none 0 0) (.int .i64 0); simp only [World.size_alloc] at h_; exact h_
    have F2 := F1.alloc F1.size EY0
    go_enter Tryd.func58, Tryd.ntmps58
    have bx_u2 := bx_2.cell0
    have bx_v2 := bx_2.cell1
    have bx_w2 := bx_2.cell2
    have br_u2 := br_2.cell0
    have br_v2 := br_2.cell1
    have br_w2 := br_2.cell2
    have br_f02 := br_2.frozen 0
    have br_f12 := br_2.frozen 1
    have br_f22 := br_2.frozen 2
    go_wp2_with fail
    refine bodyPost_ret (v := .tuple #[.agg #[.bool false, .slice none 0 0, .int .i64 0], .int .i64 1]) (by simp [results, Tryd.results58, go_sem, (br_2.set0 (.bool false)).cell0, ((br_2.set0 (.bool false)).set1 (.slice none 0 0)).cell1, (((br_2.set0 (.bool false)).set1 (.slice none 0 0)).set2 (.int .i64 0)).cell2]) rfl ⟨_, _, _, _, _, rfl, cy_zero _, F2⟩
theorem rydown (s : Bool) (A : Option Addr) (n c : Nat) (B : Option Addr) (m d : Nat) (k : Int) (q : Rat) (r : Int) (w : World) (H : Hid (∀ W : World, Below w.heap.size w W → Calls Tryd.prog 58 #[.agg #[.bool s, .slice A n c, .slice B m d], .int .i64 k, .bool false] W (GDE W q r))) :
    Calls Tryd.prog 26 #[.agg #[.bool s, .slice A n c, .slice B m d], .int .i64 k] w (GDE w q r) := by
  have bx_1 : Sq ((w).alloc (EQ s A n c B m d)) (w.heap.size) (.bool s) (.slice A n c) (.slice B m d) := by have h_ := Sq.new (w) (.bool s) (.slice A n c) (.slice B m d); exact h_
  have F1 := (Below.refl w.heap.size w).alloc (Nat.le_refl _) (EQ s A n c B m d)
  have bx_2 := bx_1.alloc EY0
  have br_2 : Sy (((w).alloc (EQ s A n c B m d)).alloc EY0) (w.heap.size + 1) (.bool false) (.slice none 0 0) (.int .i64 0) := by have h_ := Sy.new ((w).alloc (EQ s A n c B m d)) (.bool false) (.slice none 0 0) (.int .i64 0); simp only [World.size_alloc] at h_; exact h_
  have F2 := F1.alloc F1.size EY0
  go_enter Tryd.func26, Tryd.ntmps26
  have bx_u2 := bx_2.cell0
  have bx_v2 := bx_2.cell1
  have bx_w2 := bx_2.cell2
  have br_u2 := br_2.cell0
  have br_v2 := br_2.cell1
  have br_w2 := br_2.cell2
  go_wp2_with fail
  refine (H.out _ F2).mono ?_
  rintro e w3 ⟨s3, A3, n3, c3, x3, rfl, y, b3⟩
  have bx_3 := bx_2.below b3 bx_2.lt
  have br_3 := br_2.below b3 br_2.lt
  have F3 := below_then F2 (Nat.le_refl _) b3
  have bx_u3 := bx_3.cell0
  have bx_v3 := bx_3.cell1
  have bx_w3 := bx_3.cell2
  have br_u3 := br_3.cell0
  have br_v3 := br_3.cell1
  have br_w3 := br_3.cell2
  have br_f03 := br_3.frozen 0
  have br_f13 := br_3.frozen 1
  have br_f23 := br_3.frozen 2
  go_wp2_with fail
  refine bodyPost_ret (v := .tuple #[.agg #[.bool s3, .slice A3 n3 c3, .int .i64 x3], .int .i64 r]) (by simp [results, Tryd.results26, go_sem, (br_3.set0 (.bool s3)).cell0, ((br_3.set0 (.bool s3)).set1 (.slice A3 n3 c3)).cell1, (((br_3.set0 (.bool s3)).set1 (.slice A3 n3 c3)).set2 (.int .i64 x3)).cell2]) rfl (gde_end r F3 (by omega) br_3 y)
theorem ryup (s : Bool) (A : Option Addr) (n c : Nat) (B : Option Addr) (m d : Nat) (k : Int) (q : Rat) (r : Int) (w : World) (H : Hid (∀ W : World, Below w.heap.size w W → Calls Tryd.prog 58 #[.agg #[.bool s, .slice A n c, .slice B m d], .int .i64 k, .bool true] W (GDE W q r))) :
    Calls Tryd.prog 27 #[.agg #[.bool s, .slice A n c, .slice B m d], .int .i64 k] w (GDE w q r) := by
  have bx_1 : Sq ((w).alloc (EQ s A n c B m d)) (w.heap.size) (.bool s) (.slice A n c) (.slice B m d) := by have h_ := Sq.new (w) (.bool s) (.slice A n c) (.slice B m d); exact h_
  have F1 := (Below.refl w.heap.size w).alloc (Nat.le_refl _) (EQ s A n c B m d)
  have bx_2 := bx_1.alloc EY0
  have br_2 : Sy (((w).alloc (EQ s A n c B m d)).alloc EY0) (w.heap.size + 1) (.bool false) (.slice none 0 0) (.int .i64 0) := by have h_ := Sy.new ((w).alloc (EQ s A n c B m d)) (.bool false) (.slice none 0 0) (.int .i64 0); simp only [World.size_alloc] at h_; exact h_
  have F2 := F1.alloc F1.size EY0
  go_enter Tryd.func27, Tryd.ntmps27
  have bx_u2 := bx_2.cell0
  have bx_v2 := bx_2.cell1
  have bx_w2 := bx_2.cell2
  have br_u2 := br_2.cell0
  have br_v2 := br_2.cell1
  have br_w2 := br_2.cell2
  go_wp2_with fail
  refine (H.out _ F2).mono ?_
  rintro e w3 ⟨s3, A3, n3, c3, x3, rfl, y, b3⟩
  have bx_3 := bx_2.below b3 bx_2.lt
  have br_3 := br_2.below b3 br_2.lt
  have F3 := below_then F2 (Nat.le_refl _) b3
  have bx_u3 := bx_3.cell0
  have bx_v3 := bx_3.cell1
  have bx_w3 := bx_3.cell2
  have br_u3 := br_3.cell0
  have br_v3 := br_3.cell1
  have br_w3 := br_3.cell2
  have br_f03 := br_3.frozen 0
  have br_f13 := br_3.frozen 1
  have br_f23 := br_3.frozen 2
  go_wp2_with fail
  refine bodyPost_ret (v := .tuple #[.agg #[.bool s3, .slice A3 n3 c3, .int .i64 x3], .int .i64 r]) (by simp [results, Tryd.results27, go_sem, (br_3.set0 (.bool s3)).cell0, ((br_3.set0 (.bool s3)).set1 (.slice A3 n3 c3)).cell1, (((br_3.set0 (.bool s3)).set1 (.slice A3 n3 c3)).set2 (.int .i64 x3)).cell2]) rfl (gde_end r F3 (by omega) br_3 y)
end Go.Proofs.YthiapkalmmgliaaDoor
