/-
  The specification's Fixed outside its range.
-/
import Derived.Test.YtjpchbcenbjibaaGreatDoorD4
namespace Go.Proofs.YtjpchbcenbjibaaGreatDoor
open Go.RowKit
set_option linter.unusedVariables false
set_option linter.unusedSimpArgs false

theorem dt_le_dtx (n : Nat) : (dt n).length ≤ (dtx n).length := by
  by_cases h : n = 0
  · rw [h]; exact Nat.zero_le _
  · rw [dtx, if_neg h]; exact Nat.le_refl _
theorem bs_cut0 (l : List UInt8) (k : Nat) (h : k ≤ l.length) : (bs l).extract 0 k = bs (l.take k) := by
  apply ByteArray.ext
  simp [bs, ByteArray.data_extract]
theorem bs_cut (l : List UInt8) (i n : Nat) (h : n = l.length) : (bs l).extract i n = bs (l.drop i) := by
  subst h
  apply ByteArray.ext
  simp [bs, ByteArray.data_extract]
  exact List.take_of_length_le (by rw [List.length_drop]; exact Nat.le_refl _)
theorem rfixed_bad (s : Bool) (A : Option Addr) (n c : Nat) (B : Option Addr) (m d : Nat) (p : Int) (w : World) (hp : p < 0 ∨ 4000 < p) :
    Calls Tryz.prog 9 #[.agg #[.bool s, .slice A n c, .slice B m d], .int .i64 p] w (Asks w (.tuple #[.string (bs []), .int .i64 2])) := by
  have F1 := (Below.refl w.heap.size w).alloc (Nat.le_refl _) (EQ s A n c B m d)
  by_cases h1 : p < 0
  · have t1 : decide (p < 0) = true := decide_eq_true h1
    clear hp h1
    go_enter Tryz.func9, Tryz.ntmps9
    go_wp2
    go_ret2
    exact ⟨rfl, F1⟩
  · have h2 : 4000 < p := by omega
    have t1 : decide (p < 0) = false := decide_eq_false h1
    have t2 : decide (4000 < p) = true := decide_eq_true h2
    clear hp
    go_enter Tryz.func9, Tryz.ntmps9
    go_wp2
    go_ret2
    exact ⟨rfl, F1⟩
end Go.Proofs.YtjpchbcenbjibaaGreatDoor
