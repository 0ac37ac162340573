/-
  Gcd.
-/
import Derived.Test.YtllbncipadjjgaaW28
import Derived.Test.YtllbncipadjjgaaW19
namespace Go.Proofs.Ytllbncipadjjgaa
open Go.RowKit
set_option linter.unusedVariables false
set_option linter.unusedSimpArgs false

theorem Rd.same {w : World} {A : Option Addr} {n c : Nat} {xs ys : List Nat} (h : Rd w A n c xs) (h2 : Rd w A n c ys) : val xs = val ys := by
  refine val_eq_of fun j => ?_
  rcases Nat.lt_or_ge j n with hj | hj
  · obtain ⟨b, off, e, -, hc⟩ := h.get hj
    obtain ⟨b2, off2, e2, -, hc2⟩ := h2.get hj
    rw [e] at e2
    injection e2 with e2
    injection e2 with e3 e4
    subst e3 e4
    rw [hc] at hc2
    injection hc2 with hc2
    injection hc2 with _ hc2
    omega
  · rw [lim_of_ge (by rw [h.len]; exact hj), lim_of_ge (by rw [h2.len]; exact hj)]
def HasVal (w : World) (v : Value) (x : Nat) : Prop := ∃ A n c xs, v = .slice A n c ∧ Rd w A n c xs ∧ val xs = x
open Classical in
/-- The number that a slice of limbs stands for. -/
noncomputable def vOf (w : World) (v : Value) : Nat := if h : ∃ x, HasVal w v x then Classical.choose h else 0
theorem vOf_eq {w : World} {A : Option Addr} {n c : Nat} {xs : List Nat} (h : Rd w A n c xs) : vOf w (.slice A n c) = val xs := by
  have hx : ∃ x, HasVal w (.slice A n c) x := ⟨_, A, n, c, xs, rfl, h, rfl⟩
  unfold vOf
  rw [dif_pos hx]
  obtain ⟨A2, n2, c2, ys, e, h2, hv⟩ := Classical.choose_spec hx
  injection e with e1 e2 e3
  subst e1 e2 e3
  rw [← hv]
  exact h2.same h

def GRel (G : Nat) (w : World) (av bv : Value) (wr : World) : Prop :=
  ∃ (x y : Nat) (A1 : Option Addr) (L c1 : Nat) (A2 : Option Addr) (M c2 : Nat), av = .slice A1 L c1 ∧ bv = .slice A2 M c2 ∧ Rd wr A1 L c1 (dg x) ∧ Rd wr A2 M c2 (dg y) ∧ Below w.heap.size w wr ∧ y ≤ x ∧ L ≤ 65536 ∧ Nat.gcd x y = G
section
variable (A B : Option Addr) (n m c d : Nat) (xs ys : List Nat) (w : World) (X Y : Nat) (h : Rd w A n c xs) (h2 : Rd w B m d ys) (hn : n ≤ 65536) (hm : m ≤ 65536) (hX : val xs = X) (hY : val ys = Y)
include h h2 hn hm hX hY
set_option maxHeartbeats 1600000 in
theorem gcd_up (hle : Y ≤ X) : Calls Try.prog 39 #[.slice A n c, .slice B m d] w (Gives w (dg (Nat.gcd X Y))) := by
  obtain ⟨L, hL⟩ : ∃ L, (dg X).length = L := ⟨_, rfl⟩
  obtain ⟨M, hM⟩ : ∃ M, (dg Y).length = M := ⟨_, rfl⟩
  have hLn : L ≤ 65536 := by rw [← hL, ← hX, len_dg_val h.sm]; have := tlen_le xs; have := h.len; omega
  have hMn : M ≤ 65536 := by rw [← hM, ← hY, len_dg_val h2.sm]; have := tlen_le ys; have := h2.len; omega
  obtain ⟨r, hr, hr0⟩ : ∃ r, sg (val (dg X)) (val (dg Y)) = r ∧ 0 ≤ r := ⟨_, rfl, by rw [val_dg, val_dg]; unfold sg; rw [if_neg (by omega)]; split <;> omega⟩
  have HM1 := hide (fun (W : World) (hb : Rd W A n c xs) => make_at A n c xs W X L hX hL hb (by omega))
  have HM2 := hide (fun (W : World) (hb : Rd W B m d ys) => make_at B m d ys W Y M hY hM hb (by omega))
  obtain ⟨G, hG⟩ : ∃ G, G = Nat.gcd X Y := ⟨_, rfl⟩
  rw [← hG]
  have HS := hide hr
  have HG := hide (And.intro hG (And.intro hle (And.intro hL hM)))
  clear hr hL hM hle hX hY hG
  go_enter Try.func39, Try.ntmps39
  go_wp2_with (first
      | (go_at_call 13; (with_reducible refine (unhide HM1 _ h).mono ?_); rintro e w1 ⟨A1, c1, rfl, hr1, hb1⟩; have h2w := h2.below hb1)
      | (go_at_call 13; (with_reducible refine (unhide HM2 _ h2w).mono ?_); rintro e w2 ⟨A2, c2, rfl, hr2, hb2⟩; have hr1' := hr1.below hb2)
      | (go_at_call 26; refine (cmp_calls _ _ _ _ _ _ _ _ _ r hr1' hr2 (by omega) (by omega) HS.out).mono ?_; rintro e w' ⟨rfl, q, rfl⟩; have hr1'' := hr1'.below (below_drewN (Below.refl _ _) q); have hr2'' := hr2.below (below_drewN (Below.refl _ _) q)))
  go_loopw [0, 1] (fun av bv wr => GRel G w av bv wr) (fun _ bv wr => vOf wr bv)
  case atStart => exact ⟨X, Y, A1, L, c1, A2, M, c2, rfl, rfl, hr1'', hr2'', below_drewN (below_then hb1 (Nat.le_refl _) hb2) q, HG.out.2.1, hLn, HG.out.1.symm⟩
  case round =>
    obtain ⟨x, y, B1, L1, d1, B2, M1, d2, rfl, rfl, k1, k2, hb, hyx, hL1, hg⟩ := hrel
    have hl1 := k1.len
    have hl2 := k2.len
    have hM1 : M1 ≤ L1 := by
      have := tlen_mono (sm_dg y) (sm_dg x) (by rw [val_dg, val_dg]; exact hyx)
      rw [tlen_dg, tlen_dg] at this
      omega
    by_cases hM2 : 2 < M1
    · have HR := hide (red_calls B1 B2 L1 M1 d1 d2 x y wr k1 k2 hL1 hyx (by omega))
      have HK := hide (And.intro hg (And.intro hyx (And.intro hl1 hl2)))
      clear hg hyx hl1 hl2
      go_wp2_with (go_at_call 54; refine (unhide HR).mono ?_; rintro e w3 ⟨x', y', ⟨A3, c3, A4, c4, rfl, hr3, hr4, hb4⟩, k3, k4, k5, k6⟩)
      go_roundw
      case rel => exact ⟨x', y', A3, _, c3, A4, _, c4, rfl, rfl, hr3, hr4, below_then hb (Nat.le_refl _) hb4, k3, Nat.le_trans (len_dg_le (Nat.lt_of_le_of_lt k4 (lt_of_len (Nat.le_of_eq HK.out.2.2.1)))) hL1, k6.trans HK.out.1⟩
      case measure =>
        show vOf _ (.slice A4 _ c4) < vOf _ (.slice B2 M1 d2)
        rw [vOf_eq hr4, vOf_eq k2, val_dg, val_dg]
        exact k5
    · by_cases hM0 : M1 = 0
      · subst hM0
        have hy0 : y = 0 := dg_nil_iff.1 (List.eq_nil_of_length_eq_zero hl2)
        subst hy0
        rw [Nat.gcd_zero_right] at hg
        subst hg
        have HK := hide hl1
        clear hl1 hl2
        go_wp2
        go_ret
        exact ⟨B1, d1, by rw [HK.out]; rfl, by rw [HK.out]; exact k1, hb⟩
      · have hM3 : ((M1 : Int) == 0) = false := by simp; omega
        have hy0 : 0 < y := by
          rcases Nat.eq_zero_or_pos y with h0 | h0
          · rw [h0, dg_zero] at hl2; simp at hl2; omega
          · exact h0
        have hYs := u64_two (sm_dg y) (by omega)
        rw [val_dg] at hYs
        have hR : x % y < y := Nat.mod_lt _ hy0
        have hRl : (dg (x % y)).length ≤ 2 := Nat.le_trans (len_dg_le (Nat.lt_trans hR (lt_of_len (Nat.le_of_eq hl2)))) (by omega)
        have HLY := hide (show lim (dg y) 0 + 4294967296 * lim (dg y) 1 = y by rw [val_two (by omega), val_dg])
        have HLR := hide (show lim (dg (x % y)) 0 + 4294967296 * lim (dg (x % y)) 1 = x % y by rw [val_two (by omega), val_dg])
        have hGy : Nat.gcd y (x % y) = Nat.gcd x y := gcd_step
        rw [hg] at hGy
        have hGb : G ≤ 18446744073709551615 := by rw [← hg]; exact Nat.le_trans (Nat.gcd_le_right x hy0) hYs
        have hRb : x % y ≤ 18446744073709551615 := by omega
        have HDM := hide (by
          have := divmod_calls B1 B2 L1 M1 d1 d2 _ _ wr k1 k2 hL1 (by omega) (by rw [val_dg]; exact hy0)
          rwa [val_dg, val_dg] at this : Calls Try.prog 38 #[.slice B1 L1 d1, .slice B2 M1 d2] wr (Gives3 wr (dg (x / y)) (dg (x % y)) 0))
        have HGy := hide (And.intro hGy hGb)
        have HYR := hide (And.intro hYs hRb)
        clear hg hR hRl hGy hGb hYs hRb hl1 hl2 hyx
        go_wp2_with (first
          | (go_at_call 38; refine (unhide HDM).mono ?_; rintro e w3 ⟨A3, c3, A4, c4, rfl, hr3, hr4, hb4⟩; have hr5 := k2.below hb4)
          | (go_at_call 42; (with_reducible refine (low_at B2 _ _ _ _ y HLY.out hr5).mono ?_); rintro e w' ⟨rfl, rfl⟩)
          | (go_at_call 42; (with_reducible refine (low_at A4 _ _ _ _ (x % y) HLR.out hr4).mono ?_); rintro e w' ⟨rfl, rfl⟩)
          | (go_at_call 55; refine (sgcd_calls y (x % y) _ HYR.out.1 HYR.out.2).mono ?_; rintro e w' ⟨rfl, q2, rfl⟩)
          | (go_at_call 23; refine (of_int _ G _ (by rw [HGy.out.1]) HGy.out.2).mono ?_; rintro e w6 ⟨A6, c6, rfl, hr6, hb6⟩)
          | fail)
        go_ret
        exact ⟨A6, c6, rfl, hr6, below_then (below_drewN (below_then hb (Nat.le_refl _) hb4) q2) (Nat.le_refl _) hb6⟩
set_option maxHeartbeats 1600000 in
theorem gcd_dn (hle : X < Y) : Calls Try.prog 39 #[.slice A n c, .slice B m d] w (Gives w (dg (Nat.gcd X Y))) := by
  obtain ⟨L, hL⟩ : ∃ L, (dg X).length = L := ⟨_, rfl⟩
  obtain ⟨M, hM⟩ : ∃ M, (dg Y).length = M := ⟨_, rfl⟩
  have hLn : L ≤ 65536 := by rw [← hL, ← hX, len_dg_val h.sm]; have := tlen_le xs; have := h.len; omega
  have hMn : M ≤ 65536 := by rw [← hM, ← hY, len_dg_val h2.sm]; have := tlen_le ys; have := h2.len; omega
  obtain ⟨r, hr, hr0⟩ : ∃ r, sg (val (dg X)) (val (dg Y)) = r ∧ r < 0 := ⟨_, rfl, by rw [val_dg, val_dg, sg_lt hle]; omega⟩
  have HM1 := hide (fun (W : World) (hb : Rd W A n c xs) => make_at A n c xs W X L hX hL hb (by omega))
  have HM2 := hide (fun (W : World) (hb : Rd W B m d ys) => make_at B m d ys W Y M hY hM hb (by omega))
  obtain ⟨G, hG⟩ : ∃ G, G = Nat.gcd X Y := ⟨_, rfl⟩
  rw [← hG]
  have HS := hide hr
  have HG := hide (And.intro hG (And.intro hle (And.intro hL hM)))
  clear hr hL hM hle hX hY hG
  go_enter Try.func39, Try.ntmps39
  go_wp2_with (first
      | (go_at_call 13; (with_reducible refine (unhide HM1 _ h).mono ?_); rintro e w1 ⟨A1, c1, rfl, hr1, hb1⟩; have h2w := h2.below hb1)
      | (go_at_call 13; (with_reducible refine (unhide HM2 _ h2w).mono ?_); rintro e w2 ⟨A2, c2, rfl, hr2, hb2⟩; have hr1' := hr1.below hb2)
      | (go_at_call 26; refine (cmp_calls _ _ _ _ _ _ _ _ _ r hr1' hr2 (by omega) (by omega) HS.out).mono ?_; rintro e w' ⟨rfl, q, rfl⟩; have hr1'' := hr1'.below (below_drewN (Below.refl _ _) q); have hr2'' := hr2.below (below_drewN (Below.refl _ _) q)))
  go_loopw [0, 1] (fun av bv wr => GRel G w av bv wr) (fun _ bv wr => vOf wr bv)
  case atStart => exact ⟨Y, X, A2, M, c2, A1, L, c1, rfl, rfl, hr2'', hr1'', below_drewN (below_then hb1 (Nat.le_refl _) hb2) q, Nat.le_of_lt HG.out.2.1, hMn, (Nat.gcd_comm _ _).trans HG.out.1.symm⟩
  case round =>
    obtain ⟨x, y, B1, L1, d1, B2, M1, d2, rfl, rfl, k1, k2, hb, hyx, hL1, hg⟩ := hrel
    have hl1 := k1.len
    have hl2 := k2.len
    have hM1 : M1 ≤ L1 := by
      have := tlen_mono (sm_dg y) (sm_dg x) (by rw [val_dg, val_dg]; exact hyx)
      rw [tlen_dg, tlen_dg] at this
      omega
    by_cases hM2 : 2 < M1
    · have HR := hide (red_calls B1 B2 L1 M1 d1 d2 x y wr k1 k2 hL1 hyx (by omega))
      have HK := hide (And.intro hg (And.intro hyx (And.intro hl1 hl2)))
      clear hg hyx hl1 hl2
      go_wp2_with (go_at_call 54; refine (unhide HR).mono ?_; rintro e w3 ⟨x', y', ⟨A3, c3, A4, c4, rfl, hr3, hr4, hb4⟩, k3, k4, k5, k6⟩)
      go_roundw
      case rel => exact ⟨x', y', A3, _, c3, A4, _, c4, rfl, rfl, hr3, hr4, below_then hb (Nat.le_refl _) hb4, k3, Nat.le_trans (len_dg_le (Nat.lt_of_le_of_lt k4 (lt_of_len (Nat.le_of_eq HK.out.2.2.1)))) hL1, k6.trans HK.out.1⟩
      case measure =>
        show vOf _ (.slice A4 _ c4) < vOf _ (.slice B2 M1 d2)
        rw [vOf_eq hr4, vOf_eq k2, val_dg, val_dg]
        exact k5
    · by_cases hM0 : M1 = 0
      · subst hM0
        have hy0 : y = 0 := dg_nil_iff.1 (List.eq_nil_of_length_eq_zero hl2)
        subst hy0
        rw [Nat.gcd_zero_right] at hg
        subst hg
        have HK := hide hl1
        clear hl1 hl2
        go_wp2
        go_ret
        exact ⟨B1, d1, by rw [HK.out]; rfl, by rw [HK.out]; exact k1, hb⟩
      · have hM3 : ((M1 : Int) == 0) = false := by simp; omega
        have hy0 : 0 < y := by
          rcases Nat.eq_zero_or_pos y with h0 | h0
          · rw [h0, dg_zero] at hl2; simp at hl2; omega
          · exact h0
        have hYs := u64_two (sm_dg y) (by omega)
        rw [val_dg] at hYs
        have hR : x % y < y := Nat.mod_lt _ hy0
        have hRl : (dg (x % y)).length ≤ 2 := Nat.le_trans (len_dg_le (Nat.lt_trans hR (lt_of_len (Nat.le_of_eq hl2)))) (by omega)
        have HLY := hide (show lim (dg y) 0 + 4294967296 * lim (dg y) 1 = y by rw [val_two (by omega), val_dg])
        have HLR := hide (show lim (dg (x % y)) 0 + 4294967296 * lim (dg (x % y)) 1 = x % y by rw [val_two (by omega), val_dg])
        have hGy : Nat.gcd y (x % y) = Nat.gcd x y := gcd_step
        rw [hg] at hGy
        have hGb : G ≤ 18446744073709551615 := by rw [← hg]; exact Nat.le_trans (Nat.gcd_le_right x hy0) hYs
        have hRb : x % y ≤ 18446744073709551615 := by omega
        have HDM := hide (by
          have := divmod_calls B1 B2 L1 M1 d1 d2 _ _ wr k1 k2 hL1 (by omega) (by rw [val_dg]; exact hy0)
          rwa [val_dg, val_dg] at this : Calls Try.prog 38 #[.slice B1 L1 d1, .slice B2 M1 d2] wr (Gives3 wr (dg (x / y)) (dg (x % y)) 0))
        have HGy := hide (And.intro hGy hGb)
        have HYR := hide (And.intro hYs hRb)
        clear hg hR hRl hGy hGb hYs hRb hl1 hl2 hyx
        go_wp2_with (first
          | (go_at_call 38; refine (unhide HDM).mono ?_; rintro e w3 ⟨A3, c3, A4, c4, rfl, hr3, hr4, hb4⟩; have hr5 := k2.below hb4)
          | (go_at_call 42; (with_reducible refine (low_at B2 _ _ _ _ y HLY.out hr5).mono ?_); rintro e w' ⟨rfl, rfl⟩)
          | (go_at_call 42; (with_reducible refine (low_at A4 _ _ _ _ (x % y) HLR.out hr4).mono ?_); rintro e w' ⟨rfl, rfl⟩)
          | (go_at_call 55; refine (sgcd_calls y (x % y) _ HYR.out.1 HYR.out.2).mono ?_; rintro e w' ⟨rfl, q2, rfl⟩)
          | (go_at_call 23; refine (of_int _ G _ (by rw [HGy.out.1]) HGy.out.2).mono ?_; rintro e w6 ⟨A6, c6, rfl, hr6, hb6⟩)
          | fail)
        go_ret
        exact ⟨A6, c6, rfl, hr6, below_then (below_drewN (below_then hb (Nat.le_refl _) hb4) q2) (Nat.le_refl _) hb6⟩
theorem gcd_calls : Calls Try.prog 39 #[.slice A n c, .slice B m d] w (Gives w (dg (Nat.gcd X Y))) := by
  rcases Nat.lt_or_ge X Y with hlt | hge
  · exact gcd_dn A B n m c d xs ys w X Y h h2 hn hm hX hY hlt
  · exact gcd_up A B n m c d xs ys w X Y h h2 hn hm hX hY hge
end
end Go.Proofs.Ytllbncipadjjgaa
