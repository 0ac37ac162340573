/-
  The table that math/bits looks into lies, by the row's own condition.
-/
import Derived.Test.YtnddhohjfjlaiaaGreatDoorRows
import Derived.Test.YtnddhohjfjlaiaaGreatDoorEa
import Derived.Lib.LaidTab
import Derived.LaidMore
namespace Go.Proofs.YtnddhohjfjlaiaaGreatDoor
open Go.RowKit
set_option linter.unusedVariables false

theorem tab_at : ∀ j, j < 32 → (Lib.deBruijn32tab.map fun n : Nat => (n : Int)).getD j 0 = ((Lib.deBruijn32tab.getD j 0 : Nat) : Int) := by decide
theorem tb_of {W : World} (hL : laidMetH Tryz.prog [("math/bits.deBruijn32tab", Rows.laid_math_bits_deBruijn32tab)] W) : Tb W := by
  rw [MakeChecks.laidMetH_plain _ _ _ (by kernel_rfl)] at hL
  have hg : Tryz.prog.globalNamed "math/bits.deBruijn32tab" = some 0 := by kernel_rfl
  have h2 : Lib.TabIs Tryz.prog W "math/bits.deBruijn32tab" .u8 (Lib.deBruijn32tab.map fun n : Nat => (n : Int)) :=
    Lib.tabIs_of_head (t := 111) (e := 5) (n := 32) hg (by kernel_rfl) (by kernel_rfl) (by kernel_rfl) (by kernel_rfl) (by kernel_rfl) hL
  refine ⟨World.block_lt_of_cell? _ _ (h2.cell hg 0 (by decide)), fun j hj => ?_⟩
  have h3 := h2.cell hg j (by rw [List.length_map]; exact hj)
  rw [tab_at j hj] at h3
  exact h3
end Go.Proofs.YtnddhohjfjlaiaaGreatDoor
