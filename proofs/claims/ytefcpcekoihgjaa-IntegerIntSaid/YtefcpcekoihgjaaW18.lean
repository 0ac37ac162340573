/-
  DivMod, whole.
-/
import Derived.Test.YtefcpcekoihgjaaW17
namespace Go.Proofs.Ytefcpcekoihgjaa
open Go.RowKit
set_option linter.unusedVariables false
set_option linter.unusedSimpArgs false
section
variable (A B : Option Addr) (n m c d : Nat) (xs ys : List Nat) (w : World) (h : Rd w A n c xs) (h2 : Rd w B m d ys) (hn : n ≤ 65536) (hm : m ≤ 65536)
include h h2 hn hm
theorem dm_one (hle : val ys ≤ val xs) (h1 : tlen ys = 1) (hx2 : 2 < tlen xs) : Calls Try.prog 54 #[.slice A n c, .slice B m d] w (Gives3 w (dg (val xs / val ys)) (dg (val xs % val ys)) 0) := by
  have hn4 : n ≤ 4194304 := by omega
  have hm4 : m ≤ 4194304 := by omega
  obtain ⟨r, hr, hr0⟩ : ∃ r, sg (val (xs.take (tlen xs))) (val (ys.take 1)) = r ∧ 0 ≤ r := ⟨_, rfl, by rw [← h1, val_trim h.sm, val_trim h2.sm]; unfold sg; rw [if_neg (by omega)]; split <;> omega⟩
  have hv : lim (ys.take 1) 0 = val ys := by
    have h3 : lim (ys.take 1) 1 = 0 := lim_of_ge (by rw [List.length_take]; omega)
    have h4 := val_two (xs := ys.take 1) (by rw [List.length_take]; omega)
    rw [h3] at h4
    rw [← h1] at h4 ⊢
    rw [val_trim h2.sm] at h4
    omega
  have hb0 : 0 < val ys := by
    rcases Nat.eq_zero_or_pos (val ys) with h0 | h0
    · have := tlen_zero_iff.2 h0; omega
    · exact h0
  have hbB : val ys < 4294967296 := by rw [← hv]; exact (h2.sm.take 1).lim 0
  have hx := tlen_le xs
  rw [h.len] at hx
  have hx1 : tlen xs ≤ 1048576 := by omega
  have htr : Calls Try.prog 56 #[.slice B m d] w fun e w' => ∃ A' c', e = .returned (.slice A' 1 c') ∧ w = w' ∧ Rd w A' 1 c' (ys.take 1) := by
    have := trim_calls B m d ys w h2 hm4
    rw [h1] at this
    exact this.mono fun _ _ ⟨A', c', he, hw, hr, _⟩ => ⟨A', c', he, hw, hr⟩
  have hdb : ∀ (A1 : Option Addr) (c1 : Nat) (W : World), Rd W A1 (tlen xs) c1 (xs.take (tlen xs)) → Calls Try.prog 63 #[.slice A1 (tlen xs) c1, .int .u64 (val ys : Int)] W (GivesU W (dg (val xs / val ys)) (val xs % val ys)) := by
    intro A1 c1 W hr
    have := dbl_calls A1 (tlen xs) c1 _ W (val ys) hr hx1 hb0 hbB
    rwa [val_trim h.sm] at this
  have hrm : val xs % val ys ≤ 18446744073709551615 := by have := Nat.mod_lt (val xs) hb0; omega
  have HT := hide htr
  have HDB := hide hdb
  have HS := hide hr
  have HRM := hide hrm
  have hd2 : decide (((tlen xs : Nat) : Int) ≤ 2) = false := by simp; omega
  clear hr h1 htr hdb hrm hle
  generalize val ys = Y at *
  generalize val xs = X at *
  have hvy : ((lim (ys.take 1) 0 : Nat) : Int) = (Y : Int) := by omega
  clear hv
  go_enter Try.func54, Try.ntmps54
  go_wp2_with (first
      | (go_at_call 56; (with_reducible refine (trim_calls A n c xs _ h hn4).mono ?_); rintro e w' ⟨A1, c1, rfl, rfl, hr1, -⟩)
      | (go_at_call 56; (with_reducible refine (unhide HT).mono ?_); rintro e w' ⟨A2, c2, rfl, rfl, hr2⟩; obtain ⟨b0, o0, rfl, -, hc0⟩ := hr2.get0 (by omega))
      | (go_at_call 47; refine (cmp_calls _ _ _ _ _ _ _ _ _ r hr1 hr2 hx1 (by omega) HS.out).mono ?_; rintro e w' ⟨rfl, q, rfl⟩)
      | (go_at_call 63; refine ((unhide HDB) A1 c1 _ (hr1.below (below_drewN (Below.refl _ _) q))).mono ?_; rintro e w' ⟨A3, c3, rfl, hr3, hb3⟩)
      | (go_at_call 43; refine (of_int _ (X % Y) _ rfl HRM.out).mono ?_; rintro e w5 ⟨A5, c5, rfl, hr5, hb5⟩))
  go_ret3
  exact ⟨A3, c3, A5, c5, rfl, hr3.below hb5, hr5, below_then (below_then (below_drewN (Below.refl _ _) q) (Nat.le_refl _) hb3) (Nat.le_refl _) hb5⟩
theorem dm_long (hle : val ys ≤ val xs) (h1 : 2 ≤ tlen ys) (hx2 : 2 < tlen xs) : Calls Try.prog 54 #[.slice A n c, .slice B m d] w (Gives3 w (dg (val xs / val ys)) (dg (val xs % val ys)) 0) := by
  have hn4 : n ≤ 4194304 := by omega
  have hm4 : m ≤ 4194304 := by omega
  obtain ⟨p, hp⟩ : ∃ p, tlen ys = p + 2 := ⟨tlen ys - 2, by omega⟩
  obtain ⟨r, hr, hr0⟩ : ∃ r, sg (val (xs.take (tlen xs))) (val (ys.take (p + 2))) = r ∧ 0 ≤ r := ⟨_, rfl, by rw [← hp, val_trim h.sm, val_trim h2.sm]; unfold sg; rw [if_neg (by omega)]; split <;> omega⟩
  have hx := tlen_le xs
  rw [h.len] at hx
  have hy := tlen_le ys
  rw [h2.len] at hy
  have hx1 : tlen xs ≤ 1048576 := by omega
  have hy1 : p + 2 ≤ 1048576 := by omega
  have htr : Calls Try.prog 56 #[.slice B m d] w fun e w' => ∃ A' c', e = .returned (.slice A' (p + 2) c') ∧ w = w' ∧ Rd w A' (p + 2) c' (ys.take (p + 2)) := by
    have := trim_calls B m d ys w h2 hm4
    rw [hp] at this
    exact this.mono fun _ _ ⟨A', c', he, hw, hr, _⟩ => ⟨A', c', he, hw, hr⟩
  have hdl : ∀ (A1 A2 : Option Addr) (c1 c2 : Nat) (W : World), Rd W A1 (tlen xs) c1 (xs.take (tlen xs)) → Rd W A2 (p + 2) c2 (ys.take (p + 2)) → Calls Try.prog 64 #[.slice A1 (tlen xs) c1, .slice A2 (p + 2) c2] W (Gives2 W (dg (val xs / val ys)) (dg (val xs % val ys))) := by
    intro A1 A2 c1 c2 W hr1 hr2
    have e2 : val (ys.take (p + 2)) = val ys := by rw [← hp]; exact val_trim h2.sm
    have := dl_calls A1 A2 (tlen xs) p c1 c2 _ _ W hr1 hr2 (by omega) (by rw [e2, val_trim h.sm]; exact hle) (by
      rw [lim_take (by omega)]
      have := tlen_top (xs := ys) (by omega)
      rwa [hp] at this) (by have := tlen_mono h2.sm h.sm hle; omega)
    rwa [val_trim h.sm, e2] at this
  have HT := hide htr
  have HDL := hide hdl
  have HS := hide hr
  have hd2 : decide (((tlen xs : Nat) : Int) ≤ 2) = false := by simp; omega
  clear hr h1 htr hdl hle hp hy
  go_enter Try.func54, Try.ntmps54
  go_wp2_with (first
      | (go_at_call 56; (with_reducible refine (trim_calls A n c xs _ h hn4).mono ?_); rintro e w' ⟨A1, c1, rfl, rfl, hr1, -⟩)
      | (go_at_call 56; (with_reducible refine (unhide HT).mono ?_); rintro e w' ⟨A2, c2, rfl, rfl, hr2⟩)
      | (go_at_call 47; refine (cmp_calls _ _ _ _ _ _ _ _ _ r hr1 hr2 hx1 hy1 HS.out).mono ?_; rintro e w' ⟨rfl, q, rfl⟩)
      | (go_at_call 64; refine ((unhide HDL) A1 A2 c1 c2 _ (hr1.below (below_drewN (Below.refl _ _) q)) (hr2.below (below_drewN (Below.refl _ _) q))).mono ?_; rintro e w' ⟨A3, c3, A5, c5, rfl, hr3, hr5, hb3⟩))
  go_ret3
  exact ⟨A3, c3, A5, c5, rfl, hr3, hr5, below_then (below_drewN (Below.refl _ _) q) (Nat.le_refl _) hb3⟩
theorem divmod_calls (h0 : 0 < val ys) : Calls Try.prog 54 #[.slice A n c, .slice B m d] w (Gives3 w (dg (val xs / val ys)) (dg (val xs % val ys)) 0) := by
  rcases Nat.lt_or_ge (val xs) (val ys) with hlt | hle
  · rw [Nat.div_eq_of_lt hlt, Nat.mod_eq_of_lt hlt]
    exact dm_less A B n m c d xs ys w h h2 hn hm hlt
  · rcases Nat.lt_or_ge 2 (tlen xs) with hx | hx
    · rcases Nat.lt_or_ge (tlen ys) 2 with hy | hy
      · have : tlen ys ≠ 0 := fun e => by have := tlen_zero_iff.1 e; omega
        exact dm_one A B n m c d xs ys w h h2 hn hm hle (by omega) hx
      · exact dm_long A B n m c d xs ys w h h2 hn hm hle hy hx
    · exact dm_small A B n m c d xs ys w h h2 hn hm hle h0 hx
end
end Go.Proofs.Ytefcpcekoihgjaa
