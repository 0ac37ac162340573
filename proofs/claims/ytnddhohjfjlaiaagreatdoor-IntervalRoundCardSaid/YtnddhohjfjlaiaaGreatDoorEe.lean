/-
  Valid, Neg.
-/
import Derived.Test.YtnddhohjfjlaiaaGreatDoorEd
namespace Go.Proofs.YtnddhohjfjlaiaaGreatDoor
open Go.RowKit
set_option linter.unusedVariables false
set_option linter.unusedSimpArgs false

theorem GDy.more {w w' : World} {q : Rat} {e : Ending} (h : GDy w q e w') (o : Obj) : GDy w q e (w'.alloc o) := by
  obtain ⟨s, A, n, c, x, he, hc, hb⟩ := h
  exact ⟨s, A, n, c, x, he, hc.alloc o, hb.alloc hb.size o⟩
theorem neg_iv {q : Rat} (hi : Isd q) {z : Int} (hz : iv (!decide (q < 0)) (dg (dm q)) = z) : z.natAbs = dm q ∧ decide (z < 0) = decide (-q < 0) := by
  have h1 : z.natAbs = dm q := by rw [← hz, iv_abs, val_dg]
  refine ⟨h1, ?_⟩
  by_cases h0 : dm q = 0
  · have e1 := dm_eq_zero.1 h0
    have e2 : z = 0 := by omega
    rw [e1, e2]
    rfl
  · have h2 := (dvl_parts (!decide (q < 0)) (dm q) (de q) h0).2.2.2
    have h3 : dvl (!decide (q < 0)) (dm q) (de q) = -q := by
      have h4 : dvl (!decide (q < 0)) (dm q) (de q) = -dvl (decide (q < 0)) (dm q) (de q) := by
        unfold dvl
        rw [← Rat.neg_mul, ← Rat.intCast_neg]
        congr 2
        cases decide (q < 0) <;> simp
      rw [h4, dvl_of hi]
    rw [h3] at h2
    rw [h2, ← hz]
    unfold iv
    rw [val_dg]
    cases decide (q < 0) <;> simp <;> omega
end Go.Proofs.YtnddhohjfjlaiaaGreatDoor
