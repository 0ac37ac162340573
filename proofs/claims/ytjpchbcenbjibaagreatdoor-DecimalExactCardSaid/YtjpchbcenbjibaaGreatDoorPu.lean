/-
  The program's powerOfTen, units.
-/
import Derived.Test.YtjpchbcenbjibaaGreatDoorPt
namespace Go.Proofs.YtjpchbcenbjibaaGreatDoor
open Go.RowKit
set_option linter.unusedVariables false
set_option linter.unusedSimpArgs false

theorem ten_n (w : World) : Calls Tryz.prog 49 #[.int .u64 10] w (GY w 1 10) :=
  (of_int 10 10 w rfl (by decide)).mono fun _ _ hg => gy_of hg (by decide)
theorem powT_step (k : Nat) (w : World) (hk : k ≤ 5000) (h0 : k ≠ 0) (ih : ∀ (i : Int) (w : World), i = ((k / 2 : Nat) : Int) → Calls Tryz.prog 46 #[.int .i64 i] w (GY w (k / 2 + 1) (10 ^ (k / 2)))) :
    Calls Tryz.prog 46 #[.int .i64 (k : Int)] w (GY w (k + 1) (10 ^ k)) := by
  have IH := hide ih
  have d0 : ((k : Int) == 0) = false := by simp; omega
  have HH := hide (show (k : Int) / 2 = ((k / 2 : Nat) : Int) by omega)
  have HT := hide (show (k : Int).tdiv 2 = ((k / 2 : Nat) : Int) by rw [Int.tdiv_eq_ediv_of_nonneg (by omega)]; omega)
  clear ih h0
  by_cases h2 : k % 2 = 1
  · have d1 : ((k : Int) % 2 == 1) = true := by simp; omega
    have HZ := hide (show 10 ^ (k / 2) * 10 ^ (k / 2) * 10 = 10 ^ k by rw [← Nat.pow_add, ← Nat.pow_succ]; congr 1; omega)
    clear h2
    go_enter Tryz.func46, Tryz.ntmps46
    go_wp2_with fail
    refine ((unhide IH) _ _ (by first | exact HH.out | exact HT.out)).mono ?_
    rintro e w1 ⟨A1, n1, c1, rfl, y1, b1⟩
    go_wp2_with fail
    refine (mul_n _ _ _ _ _ _ (k / 2 + 1) (k / 2 + 1) (k / 2 + 1 + (k / 2 + 1)) _ _ _ _ rfl y1.nz y1.nz (Nat.le_refl _) (by omega)).mono ?_
    rintro e w2 ⟨A2, n2, c2, rfl, y2, b2⟩
    go_wp2_with fail
    refine (ten_n _).mono ?_
    rintro e w3 ⟨A3, n3, c3, rfl, y3, b3⟩
    have y4 := y2.below b3
    go_wp2_with fail
    refine (mul_n _ _ _ _ _ _ (k / 2 + 1 + (k / 2 + 1)) 1 (k / 2 + 1 + (k / 2 + 1) + 1) _ _ _ _ HZ.out y4.nz y3.nz (Nat.le_refl _) (by omega)).mono ?_
    rintro e w5 ⟨A5, n5, c5, rfl, y5, b5⟩
    go_wp2
    go_ret
    exact ⟨_, _, _, rfl, ny_tight y5 (ten_lt_pw k), below_then (below_then (below_then b1 (Nat.le_refl _) b2) (Nat.le_refl _) b3) (Nat.le_refl _) b5⟩
  · have d1 : ((k : Int) % 2 == 1) = false := by simp; omega
    have HZ := hide (show 10 ^ (k / 2) * 10 ^ (k / 2) = 10 ^ k by rw [← Nat.pow_add]; congr 1; omega)
    clear h2
    go_enter Tryz.func46, Tryz.ntmps46
    go_wp2_with fail
    refine ((unhide IH) _ _ (by first | exact HH.out | exact HT.out)).mono ?_
    rintro e w1 ⟨A1, n1, c1, rfl, y1, b1⟩
    go_wp2_with fail
    refine (mul_n _ _ _ _ _ _ (k / 2 + 1) (k / 2 + 1) (k / 2 + 1 + (k / 2 + 1)) _ _ _ _ HZ.out y1.nz y1.nz (Nat.le_refl _) (by omega)).mono ?_
    rintro e w2 ⟨A2, n2, c2, rfl, y2, b2⟩
    go_wp2
    go_ret
    exact ⟨_, _, _, rfl, ny_tight y2 (ten_lt_pw k), below_then b1 (Nat.le_refl _) b2⟩
theorem powT_calls (k : Nat) : ∀ (P : Int) (w : World), k ≤ 5000 → P = (k : Int) → Calls Tryz.prog 46 #[.int .i64 P] w (GY w (k + 1) (10 ^ k)) := by
  induction k using Nat.strongRecOn with
  | _ k ih =>
    rintro P w hk rfl
    by_cases h0 : k = 0
    · subst h0
      go_enter Tryz.func46, Tryz.ntmps46
      go_wp2_with fail
      refine (one_n _ 1 (Nat.le_refl _)).mono ?_
      rintro e w1 ⟨A1, n1, c1, rfl, y1, b1⟩
      go_wp2
      go_ret
      exact ⟨_, _, _, rfl, y1, b1⟩
    · exact powT_step k w hk h0 fun i W hi => ih (k / 2) (by omega) i W (by omega) hi
theorem fix_round (N D : Nat) (hD : 0 < D) : (N * 2 + D) / (D * 2) = if D ≤ N % D + N % D then N / D + 1 else N / D := by
  have h1 := Nat.div_add_mod N D
  have h2 := Nat.mod_lt N hD
  generalize N / D = a at *
  generalize N % D = r at *
  subst h1
  split
  · rename_i h
    have e : (D * a + r) * 2 + D = D * 2 * (a + 1) + (r + r - D) := by
      have : D * 2 * (a + 1) = D * a * 2 + D * 2 := by rw [Nat.mul_add, Nat.mul_one, Nat.mul_right_comm]
      omega
    rw [e, Nat.mul_add_div (by omega), Nat.div_eq_of_lt (by omega), Nat.add_zero]
  · rename_i h
    have e : (D * a + r) * 2 + D = D * 2 * a + (r + r + D) := by
      have : D * 2 * a = D * a * 2 := by rw [Nat.mul_right_comm]
      omega
    rw [e, Nat.mul_add_div (by omega), Nat.div_eq_of_lt (by omega), Nat.add_zero]
end Go.Proofs.YtjpchbcenbjibaaGreatDoor
