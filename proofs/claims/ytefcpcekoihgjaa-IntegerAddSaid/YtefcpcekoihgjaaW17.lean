/-
  DivMod.
-/
import Derived.Test.YtefcpcekoihgjaaW15
import Derived.Test.YtefcpcekoihgjaaW16
import Derived.Test.YtefcpcekoihgjaaW8
namespace Go.Proofs.Ytefcpcekoihgjaa
open Go.RowKit
set_option linter.unusedVariables false
set_option linter.unusedSimpArgs false

/-- Two slices of limbs and an error. -/
def Gives3 (w : World) (xs ys : List Nat) (r : Int) (e : Ending) (w' : World) : Prop :=
  ∃ A c B d, e = .returned (.tuple #[.slice A xs.length c, .slice B ys.length d, .int .i64 r]) ∧ Rd w' A xs.length c xs ∧ Rd w' B ys.length d ys ∧ Below w.heap.size w w'
theorem of_int (i : Int) (k : Nat) (w : World) (hi : i = (k : Int)) (hk : k ≤ 18446744073709551615) : Calls Try.prog 43 #[.int .u64 i] w (Gives w (dg k)) := by
  subst hi
  exact of_calls k w hk
theorem u64_two {xs : List Nat} (hs : Sm xs) (h : xs.length ≤ 2) : val xs ≤ 18446744073709551615 := by
  have h0 := hs.lim 0
  have h1 := hs.lim 1
  rw [← val_two h]
  omega
section
variable (A B : Option Addr) (n m c d : Nat) (xs ys : List Nat) (w : World) (h : Rd w A n c xs) (h2 : Rd w B m d ys) (hn : n ≤ 65536) (hm : m ≤ 65536)
include h h2 hn hm
theorem dm_zero (h0 : val ys = 0) : Calls Try.prog 54 #[.slice A n c, .slice B m d] w (Gives3 w [] [] 3) := by
  have hn4 : n ≤ 4194304 := by omega
  have hm4 : m ≤ 4194304 := by omega
  have ht : tlen ys = 0 := tlen_zero_iff.2 h0
  have e0 : (((tlen ys : Nat) : Int) == 0) = true := by simp; omega
  clear ht h0
  go_enter Try.func54, Try.ntmps54
  go_wp2_with (first
      | (go_at_call 56; (with_reducible refine (trim_calls A n c xs _ h hn4).mono ?_); rintro e w' ⟨A1, c1, rfl, rfl, hr1, -⟩)
      | (go_at_call 56; (with_reducible refine (trim_calls B m d ys _ h2 hm4).mono ?_); rintro e w' ⟨A2, c2, rfl, rfl, hr2, -⟩))
  go_ret3
  exact ⟨none, 0, none, 0, rfl, Rd.empty _ _ _, Rd.empty _ _ _, Below.refl _ _⟩
theorem dm_less (hlt : val xs < val ys) : Calls Try.prog 54 #[.slice A n c, .slice B m d] w (Gives3 w [] (dg (val xs)) 0) := by
  have hn4 : n ≤ 4194304 := by omega
  have hm4 : m ≤ 4194304 := by omega
  have ht : tlen ys ≠ 0 := fun h0 => by have := tlen_zero_iff.1 h0; omega
  have e0 : (((tlen ys : Nat) : Int) == 0) = false := by simp; omega
  have hx := tlen_le xs
  have hy := tlen_le ys
  rw [h.len] at hx
  rw [h2.len] at hy
  have hsg : sg (val (xs.take (tlen xs))) (val (ys.take (tlen ys))) = -1 := by rw [val_trim h.sm, val_trim h2.sm]; exact sg_lt hlt
  have HV := hide (val_trim h.sm)
  have HS := hide hsg
  have hx1 : tlen xs ≤ 1048576 := by omega
  have hy1 : tlen ys ≤ 1048576 := by omega
  clear ht hlt hsg
  go_enter Try.func54, Try.ntmps54
  go_wp2_with (first
      | (go_at_call 56; (with_reducible refine (trim_calls A n c xs _ h hn4).mono ?_); rintro e w' ⟨A1, c1, rfl, rfl, hr1, -⟩)
      | (go_at_call 56; (with_reducible refine (trim_calls B m d ys _ h2 hm4).mono ?_); rintro e w' ⟨A2, c2, rfl, rfl, hr2, -⟩)
      | (go_at_call 47; refine (cmp_calls _ _ _ _ _ _ _ _ _ (-1) hr1 hr2 hx1 hy1 HS.out).mono ?_; rintro e w' ⟨rfl, q, rfl⟩)
      | (go_at_call 36; refine (make_calls _ _ _ _ _ (hr1.below (below_drewN (Below.refl _ _) q)) hx1).mono ?_; rintro e w' ⟨A3, c3, rfl, hr3, hb3⟩))
  go_ret3
  have hv := HV.out
  rw [hv] at hr3
  exact ⟨none, 0, A3, c3, by rw [← hv]; rfl, Rd.empty _ _ _, hr3, below_then (below_drewN (Below.refl _ _) q) (Nat.le_refl _) hb3⟩
set_option maxHeartbeats 2000000 in
theorem dm_small (hle : val ys ≤ val xs) (h0 : 0 < val ys) (hx2 : tlen xs ≤ 2) : Calls Try.prog 54 #[.slice A n c, .slice B m d] w (Gives3 w (dg (val xs / val ys)) (dg (val xs % val ys)) 0) := by
  have hn4 : n ≤ 4194304 := by omega
  have hm4 : m ≤ 4194304 := by omega
  have ht : tlen ys ≠ 0 := fun h0 => by have := tlen_zero_iff.1 h0; omega
  have e0 : (((tlen ys : Nat) : Int) == 0) = false := by simp; omega
  have hy2 : tlen ys ≤ 2 := Nat.le_trans (tlen_mono h2.sm h.sm hle) hx2
  obtain ⟨r, hr, hr0⟩ : ∃ r, sg (val (xs.take (tlen xs))) (val (ys.take (tlen ys))) = r ∧ 0 ≤ r := ⟨_, rfl, by rw [val_trim h.sm, val_trim h2.sm]; unfold sg; rw [if_neg (by omega)]; split <;> omega⟩
  have hX := u64_two (h.sm.take (tlen xs)) (by rw [List.length_take]; omega)
  have hvx : lim (xs.take (tlen xs)) 0 + 4294967296 * lim (xs.take (tlen xs)) 1 = val xs := by rw [val_two (by rw [List.length_take]; omega), val_trim h.sm]
  have hvy : lim (ys.take (tlen ys)) 0 + 4294967296 * lim (ys.take (tlen ys)) 1 = val ys := by rw [val_two (by rw [List.length_take]; omega), val_trim h2.sm]
  rw [val_trim h.sm] at hX
  have hx1 : tlen xs ≤ 1048576 := by omega
  have hy1 : tlen ys ≤ 1048576 := by omega
  generalize val xs = X at hle h0 hvx hX ⊢
  generalize val ys = Y at hle h0 hvy ⊢
  have hY0 : ((Y : Int) == 0) = false := by simp; omega
  have hq1 : X / Y ≤ 18446744073709551615 := Nat.le_trans (Nat.div_le_self _ _) hX
  have HQ := hide (show IntKind.u64.wrap ((X : Int) / (Y : Int)) = ((X / Y : Nat) : Int) by
    have e : (X : Int) / (Y : Int) = ((X / Y : Nat) : Int) := by simp
    rw [e]
    generalize X / Y = Z at hq1 ⊢
    exact IntWalk.u64_in _ ⟨by omega, by omega⟩)
  have HQ' := hide (show (X : Int) / (Y : Int) = ((X / Y : Nat) : Int) by simp)
  have HR' := hide (show (X : Int) % (Y : Int) = ((X % Y : Nat) : Int) by simp)
  have HR := hide (show (X : Int).tmod (Y : Int) = ((X % Y : Nat) : Int) by
    rw [Int.tmod_eq_emod_of_nonneg (by omega)]; simp)
  have hq2 : X % Y ≤ 18446744073709551615 := Nat.le_trans (Nat.mod_le _ _) hX
  have HS := hide hr
  have HVX := hide hvx
  have HVY := hide hvy
  have H1 := hide hq1
  have H2 := hide hq2
  clear ht hr hvx hvy hq1 hq2 hle
  go_enter Try.func54, Try.ntmps54
  go_wp2_with (first
      | (go_at_call 56; (with_reducible refine (trim_calls A n c xs _ h hn4).mono ?_); rintro e w' ⟨A1, c1, rfl, rfl, hr1, -⟩)
      | (go_at_call 56; (with_reducible refine (trim_calls B m d ys _ h2 hm4).mono ?_); rintro e w' ⟨A2, c2, rfl, rfl, hr2, -⟩)
      | (go_at_call 47; refine (cmp_calls _ _ _ _ _ _ _ _ _ r hr1 hr2 hx1 hy1 HS.out).mono ?_; rintro e w' ⟨rfl, q, rfl⟩)
      | (go_at_call 58; (with_reducible refine (low_at A1 _ _ _ _ X HVX.out (hr1.below (below_drewN (Below.refl _ _) q))).mono ?_); rintro e w' ⟨rfl, rfl⟩)
      | (go_at_call 58; (with_reducible refine (low_at A2 _ _ _ _ Y HVY.out (hr2.below (below_drewN (Below.refl _ _) q))).mono ?_); rintro e w' ⟨rfl, rfl⟩))
  clear h h2 hr1 hr2 HVX HVY HS
  go_region_with (first
      | (go_at_call 43; (with_reducible refine (of_int (IntKind.u64.wrap ((X : Int) / (Y : Int))) (X / Y) _ HQ.out H1.out).mono ?_); rintro e w1 ⟨A4, c4, rfl, hr4, hb4⟩)
      | (go_at_call 43; (with_reducible refine (of_int ((X : Int).tmod (Y : Int)) (X % Y) _ HR.out H2.out).mono ?_); rintro e w2 ⟨A5, c5, rfl, hr5, hb5⟩)
      | (go_at_call 43; (with_reducible refine (of_int ((X : Int) / (Y : Int)) (X / Y) _ HQ'.out H1.out).mono ?_); rintro e w1 ⟨A4, c4, rfl, hr4, hb4⟩)
      | (go_at_call 43; (with_reducible refine (of_int ((X : Int) % (Y : Int)) (X % Y) _ HR'.out H2.out).mono ?_); rintro e w2 ⟨A5, c5, rfl, hr5, hb5⟩))
  all_goals go_wp2
  all_goals go_ret3
  all_goals exact ⟨A4, c4, A5, c5, rfl, hr4.below hb5, hr5, below_then (below_then ((below_drewN (Below.refl _ _) q).drew) (Nat.le_refl _) hb4) (Nat.le_refl _) hb5⟩
end
end Go.Proofs.Ytefcpcekoihgjaa
