/-
  The specification's Fixed outside its range.
-/
import Derived.Test.YtjpchbcenbjibaaDoorD4
namespace Go.Proofs.YtjpchbcenbjibaaDoor
open Go.RowKit
set_option linter.unusedVariables false
set_option linter.unusedSimpArgs false

theorem dt_le_dtx (n : Nat) : (dt n).length ≤ (dtx n).length := by
  by_cases h : n = 0
  · rw [h]; exact Nat.zero_le _
  · rw [dtx, if_neg h]; exact Nat.le_refl _
theorem bs_cut0 (l : List UInt8) (k : Nat) (h : k ≤ l.length) : (bs l).extract 0 k = bs (l.take k) := by
  apply ByteArray.ext
  simp [bs, ByteArray.data_extract]
theorem bs_cut (l : List UInt8) (i n : Nat) (h : n = l.length) : (bs l).extract i n = bs (l.drop i) := by
  subst h
  apply ByteArray.ext
  simp [bs, ByteArray.data_extract]
  exact List.take_of_length_le (by rw [List.length_drop]; exact Nat.le_refl _)
end Go.Proofs.YtjpchbcenbjibaaDoor
