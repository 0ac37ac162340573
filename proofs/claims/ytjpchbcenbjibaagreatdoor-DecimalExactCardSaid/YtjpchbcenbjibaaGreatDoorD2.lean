/-
  The specification's Parse: what it needs.
-/
import Derived.Test.YtjpchbcenbjibaaGreatDoorD1
namespace Go.Proofs.YtjpchbcenbjibaaGreatDoor
open Go.RowKit
set_option linter.unusedVariables false
set_option linter.unusedSimpArgs false

theorem get_at (l : List UInt8) (i j x : Nat) (hij : i = j) (hi : i < (bs l).size) (h : ∀ hj : j < (bs l).size, ((bs l)[j]'hj).toNat = x) : ((bs l)[i]'hi).toNat = x := by
  subst hij
  exact h hi
theorem power_at (i : Int) (n : Nat) (w : World) (hi : i = (n : Int)) (hn : n ≤ 5000) : Calls Tryz.prog 28 #[.int .i64 i] w (GY w (n + 1) (10 ^ n)) := by
  subst hi
  exact power_n n w hn
/-- A number, an offset and an error. -/
def GP (w : World) (r : Rat × Nat × Nat) (e : Ending) (w' : World) : Prop := ∃ s A n c B m d, e = .returned (.tuple #[.agg #[.bool s, .slice A n c, .slice B m d], .int .i64 (r.2.1 : Int), .int .i64 (r.2.2 : Int)]) ∧ Cq w' s A n c B m d r.1 ∧ Below w.heap.size w w'
theorem gp_end {w w2 : World} {g : Nat} {s s0 : Bool} {A A0 B B0 : Option Addr} {n c n0 c0 m d m0 d0 : Nat} (r : Rat × Nat × Nat) (I ec : Int) (hI : I = (r.2.1 : Int)) (hec : ec = (r.2.2 : Int)) (hB : Below w.heap.size w w2) (hg : w.heap.size ≤ g) (hs : Sq w2 g (.bool s0) (.slice A0 n0 c0) (.slice B0 m0 d0)) (hc : Cq w2 s A n c B m d r.1) :
    GP w r (.returned (.tuple #[.agg #[.bool s, .slice A n c, .slice B m d], .int .i64 I, .int .i64 ec])) (((w2.setCell ⟨g, 0, none⟩ (.bool s)).setCell ⟨g, 1, none⟩ (.slice A n c)).setCell ⟨g, 2, none⟩ (.slice B m d)) := by
  subst hI hec
  exact ⟨_, _, _, _, _, _, _, rfl, hc.storQ hs _ _ _, below_storQ hB hg⟩
theorem gp_alloc {w w' : World} {r : Rat × Nat × Nat} {e : Ending} (h : GP w r e w') (o : Obj) : GP w r e (w'.alloc o) := by
  obtain ⟨s, A, n, c, B, m, d, he, hc, hb⟩ := h
  exact ⟨s, A, n, c, B, m, d, he, hc.alloc o, hb.alloc hb.size o⟩
theorem GP.to {w w' : World} {r r' : Rat × Nat × Nat} {e : Ending} (h : GP w r e w') (hr : r' = r) : GP w r' e w' := hr ▸ h
theorem make_value (neg : Bool) (X D : Nat) : ((iv neg (dg X) : Int) : Rat) / ((iv false (dg D) : Int) : Rat) = sgnq neg ((X : Rat) / (D : Rat)) := by
  rw [sgnq_iv, iv, iv, val_dg, val_dg]
  rfl
end Go.Proofs.YtjpchbcenbjibaaGreatDoor
