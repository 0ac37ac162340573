/-
  What Valid accepts is canonical.
-/
import Derived.Test.YthiapkalmmgliaaDoorK13
namespace Go.Proofs.YthiapkalmmgliaaDoor
open Go.RowKit
set_option linter.unusedVariables false
set_option linter.unusedSimpArgs false

theorem vb_cy {w : World} {s : Bool} {A : Option Addr} {n c : Nat} {e : Int} {xs : List Nat} (h : Rd w A n c xs) (hv : vb s xs e = true) : Cy w s A n c e (dvl s (val xs) e) ∧ -1048576 ≤ e ∧ e ≤ 1048576 := by
  unfold vb at hv
  split at hv
  · rename_i h0
    simp at hv
    obtain ⟨rfl, rfl⟩ := hv
    obtain rfl : xs = [] := List.eq_nil_of_length_eq_zero h0
    refine ⟨⟨?_, ?_, ?_, ?_⟩, by omega, by omega⟩
    · rw [show val [] = 0 from rfl, dvl_zero, dmq_zero, dg_zero]; exact h
    · rw [show val [] = 0 from rfl, dvl_zero]; rfl
    · rw [show val [] = 0 from rfl, dvl_zero]; rfl
    · rw [show val [] = 0 from rfl, dvl_zero]; rfl
  · rename_i h0
    simp at hv
    obtain ⟨⟨⟨h1, h2⟩, h3⟩, h4⟩ := hv
    have hodd : val xs % 2 = 1 := by rw [← lim_mod2]; exact h2
    obtain ⟨p1, p2, p3, p4⟩ := dvl_parts s (val xs) e (by omega)
    have hdg : dg (val xs) = xs := by rw [dg_val h.sm, h1, List.take_length]
    refine ⟨⟨?_, ?_, ?_, p1⟩, h3, h4⟩
    · rw [p2, odp_odd hodd, hdg]; exact h
    · rw [p4]
    · rw [p3, tw_odd hodd]; omega
end Go.Proofs.YthiapkalmmgliaaDoor
