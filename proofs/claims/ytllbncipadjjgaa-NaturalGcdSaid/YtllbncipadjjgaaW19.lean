/-
  smallGcd, and Gcd of numbers below 2 to the 64.
-/
import Derived.Test.YtllbncipadjjgaaW18
namespace Go.Proofs.Ytllbncipadjjgaa
open Go.RowKit
set_option linter.unusedVariables false
set_option linter.unusedSimpArgs false

def SgRel (G : Nat) (x y : Value) : Prop := ∃ a b : Nat, x = .int .u64 a ∧ y = .int .u64 b ∧ a ≤ 18446744073709551615 ∧ b ≤ 18446744073709551615 ∧ Nat.gcd a b = G
theorem sgcd_calls (x y : Nat) (w : World) (hx : x ≤ 18446744073709551615) (hy : y ≤ 18446744073709551615) :
    Calls Try.prog 55 #[.int .u64 (x : Int), .int .u64 (y : Int)] w fun e w' => e = .returned (.int .u64 (Nat.gcd x y : Nat)) ∧ ∃ m, w' = w.drewN m := by
  obtain ⟨G, hG⟩ : ∃ G, G = Nat.gcd x y := ⟨_, rfl⟩
  rw [← hG]
  have HG := hide hG
  clear hG
  go_enter Try.func55, Try.ntmps55
  go_wp2
  go_loopw [0, 1] (fun a b wr => SgRel G a b ∧ ∃ m, wr = w.drewN m) (fun _ b _ => (intOf b).toNat)
  case atStart => exact ⟨⟨x, y, rfl, rfl, hx, hy, HG.out.symm⟩, 0, rfl⟩
  case round =>
    obtain ⟨⟨a, b, rfl, rfl, ha, hb, hg⟩, m, rfl⟩ := hrel
    have H := hide hg
    clear hg
    by_cases h0 : b = 0
    · subst h0
      go_wp2
      go_ret
      refine ⟨?_, _, rfl⟩
      show Ending.returned (.int .u64 (a : Int)) = _
      rw [← H.out, Nat.gcd_zero_right]
    · have hb0 : ((b : Int) == 0) = false := by simp; omega
      have hb1 : ((b : Int) != 0) = true := by simp; omega
      have hpos : 0 < b := by omega
      have hm : (a : Int) % (b : Int) = ((a % b : Nat) : Int) := by simp
      have hlt : a % b < b := Nat.mod_lt _ hpos
      have hgc : Nat.gcd b (a % b) = G := by
        rw [← H.out, Nat.gcd_comm b (a % b), ← Nat.gcd_rec, Nat.gcd_comm]
      have HG2 := hide (And.intro hm hgc)
      obtain ⟨c, hc⟩ : ∃ c, c = a % b := ⟨_, rfl⟩
      rw [← hc] at hlt
      have HC := hide hc
      clear hm hgc hc
      go_wp2
      go_quiet (fail)
      go_wp2
      go_roundw
      case rel => exact ⟨⟨b, a % b, rfl, by first | rfl | exact congrArg _ HG2.out.1, hb, by have := HC.out; omega, HG2.out.2⟩, by first | exact ⟨_, rfl⟩ | exact drewN2 _ _ _⟩
      case measure => simp [intOf]; have := HG2.out.1; have := HC.out; omega

/-- The greatest common divisor of numbers of at most two limbs. -/
theorem gcd_step {a b : Nat} : Nat.gcd b (a % b) = Nat.gcd a b := by rw [Nat.gcd_comm b (a % b), ← Nat.gcd_rec, Nat.gcd_comm]
theorem make_at (A : Option Addr) (n c : Nat) (xs : List Nat) (w : World) (X L : Nat) (hX : val xs = X) (hL : (dg X).length = L) (h : Rd w A n c xs) (hn : n ≤ 1048576) :
    Calls Try.prog 13 #[.slice A n c] w fun e w' => ∃ A1 c1, e = .returned (.slice A1 L c1) ∧ Rd w' A1 L c1 (dg X) ∧ Below w.heap.size w w' := by
  subst hX hL
  exact make_calls A n c xs w h hn
section
variable (A B : Option Addr) (n m c d : Nat) (xs ys : List Nat) (w : World) (X Y : Nat) (h : Rd w A n c xs) (h2 : Rd w B m d ys) (hn : n ≤ 65536) (hm : m ≤ 65536) (hX : val xs = X) (hY : val ys = Y)
include h h2 hn hm hX hY
/-- The end of Gcd, where the lesser number has at most two limbs and is not 0. -/
theorem gcd_ge (hle : Y ≤ X) (h0 : 0 < Y) (h2l : (dg Y).length ≤ 2) : Calls Try.prog 39 #[.slice A n c, .slice B m d] w (Gives w (dg (Nat.gcd X Y))) := by
  obtain ⟨L, hL⟩ : ∃ L, (dg X).length = L := ⟨_, rfl⟩
  obtain ⟨M, hM⟩ : ∃ M, (dg Y).length = M := ⟨_, rfl⟩
  have hLn : L ≤ 65536 := by rw [← hL, ← hX, len_dg_val h.sm]; have := tlen_le xs; have := h.len; omega
  have hMn : M ≤ 65536 := by rw [← hM, ← hY, len_dg_val h2.sm]; have := tlen_le ys; have := h2.len; omega
  obtain ⟨r, hr, hr0⟩ : ∃ r, sg (val (dg X)) (val (dg Y)) = r ∧ 0 ≤ r := ⟨_, rfl, by rw [val_dg, val_dg]; unfold sg; rw [if_neg (by omega)]; split <;> omega⟩
  rw [hM] at h2l
  have hM0 : ((M : Int) == 0) = false := by
    have : M ≠ 0 := fun e => by
      rw [e] at hM
      have := dg_nil_iff.1 (List.eq_nil_of_length_eq_zero hM)
      omega
    simp; omega
  have hd : decide ((2 : Int) < (M : Int)) = false := by simp; omega
  have hYs := u64_two (sm_dg Y) (by omega)
  rw [val_dg] at hYs
  have hR : X % Y < Y := Nat.mod_lt _ h0
  have hRl : (dg (X % Y)).length ≤ 2 := Nat.le_trans (len_dg_le (Nat.lt_trans hR (lt_of_len (Nat.le_of_eq hM)))) h2l
  have HLY := hide (show lim (dg Y) 0 + 4294967296 * lim (dg Y) 1 = Y by rw [val_two (by omega), val_dg])
  have HLR := hide (show lim (dg (X % Y)) 0 + 4294967296 * lim (dg (X % Y)) 1 = X % Y by rw [val_two (by omega), val_dg])
  have hG : Nat.gcd Y (X % Y) = Nat.gcd X Y := gcd_step
  have hGb : Nat.gcd X Y ≤ 18446744073709551615 := Nat.le_trans (Nat.gcd_le_right X h0) hYs
  have hRb : X % Y ≤ 18446744073709551615 := by omega
  have HM1 := hide (fun (W : World) (hb : Rd W A n c xs) => make_at A n c xs W X L hX hL hb (by omega))
  have HM2 := hide (fun (W : World) (hb : Rd W B m d ys) => make_at B m d ys W Y M hY hM hb (by omega))
  have HDM := hide (fun (A1 A2 : Option Addr) (c1 c2 : Nat) (W : World) (k1 : Rd W A1 L c1 (dg X)) (k2 : Rd W A2 M c2 (dg Y)) => (by
    have := divmod_calls A1 A2 L M c1 c2 _ _ W k1 k2 hLn hMn (by rw [val_dg]; exact h0)
    rwa [val_dg, val_dg] at this : Calls Try.prog 38 #[.slice A1 L c1, .slice A2 M c2] W (Gives3 W (dg (X / Y)) (dg (X % Y)) 0)))
  have HS := hide hr
  have HG := hide (And.intro hG hGb)
  clear hr hL hM h0 hle hX hY h2l hR hRl hG hGb
  go_enter Try.func39, Try.ntmps39
  go_wp2_with (first
      | (go_at_call 13; (with_reducible refine (unhide HM1 _ h).mono ?_); rintro e w1 ⟨A1, c1, rfl, hr1, hb1⟩; have h2w := h2.below hb1)
      | (go_at_call 13; (with_reducible refine (unhide HM2 _ h2w).mono ?_); rintro e w2 ⟨A2, c2, rfl, hr2, hb2⟩; have hr1' := hr1.below hb2)
      | (go_at_call 26; refine (cmp_calls _ _ _ _ _ _ _ _ _ r hr1' hr2 (by omega) (by omega) HS.out).mono ?_; rintro e w' ⟨rfl, q, rfl⟩; have hr1'' := hr1'.below (below_drewN (Below.refl _ _) q); have hr2'' := hr2.below (below_drewN (Below.refl _ _) q)))
  refine wp_loop_rounds 1 ?_
  rw [rounds_succ]
  go_wp2_with (first
      | (go_at_call 38; refine (unhide HDM _ _ _ _ _ hr1'' hr2'').mono ?_; rintro e w3 ⟨A3, c3, A4, c4, rfl, hr3, hr4, hb4⟩; have hr5 := hr2''.below hb4)
      | (go_at_call 42; (with_reducible refine (low_at A2 _ _ _ _ Y HLY.out hr5).mono ?_); rintro e w' ⟨rfl, rfl⟩)
      | (go_at_call 42; (with_reducible refine (low_at A4 _ _ _ _ (X % Y) HLR.out hr4).mono ?_); rintro e w' ⟨rfl, rfl⟩)
      | (go_at_call 55; refine (sgcd_calls Y (X % Y) _ hYs hRb).mono ?_; rintro e w' ⟨rfl, q2, rfl⟩)
      | (go_at_call 23; refine (of_int _ (Nat.gcd X Y) _ (by rw [HG.out.1]) HG.out.2).mono ?_; rintro e w6 ⟨A6, c6, rfl, hr6, hb6⟩))
  go_ret
  exact ⟨A6, c6, rfl, hr6, below_then (below_drewN (below_then (below_drewN (below_then hb1 (Nat.le_refl _) hb2) q) (Nat.le_refl _) hb4) q2) (Nat.le_refl _) hb6⟩
/-- The end of Gcd, where the first number is the lesser one, has at most two limbs and is not 0. -/
theorem gcd_lt (hle : X < Y) (h0 : 0 < X) (h2l : (dg X).length ≤ 2) : Calls Try.prog 39 #[.slice A n c, .slice B m d] w (Gives w (dg (Nat.gcd X Y))) := by
  obtain ⟨L, hL⟩ : ∃ L, (dg X).length = L := ⟨_, rfl⟩
  obtain ⟨M, hM⟩ : ∃ M, (dg Y).length = M := ⟨_, rfl⟩
  have hLn : L ≤ 65536 := by rw [← hL, ← hX, len_dg_val h.sm]; have := tlen_le xs; have := h.len; omega
  have hMn : M ≤ 65536 := by rw [← hM, ← hY, len_dg_val h2.sm]; have := tlen_le ys; have := h2.len; omega
  obtain ⟨r, hr, hr0⟩ : ∃ r, sg (val (dg X)) (val (dg Y)) = r ∧ r < 0 := ⟨_, rfl, by rw [val_dg, val_dg, sg_lt hle]; omega⟩
  rw [hL] at h2l
  have hM0 : ((L : Int) == 0) = false := by
    have : L ≠ 0 := fun e => by
      rw [e] at hL
      have := dg_nil_iff.1 (List.eq_nil_of_length_eq_zero hL)
      omega
    simp; omega
  have hd : decide ((2 : Int) < (L : Int)) = false := by simp; omega
  have hXs := u64_two (sm_dg X) (by omega)
  rw [val_dg] at hXs
  have hR : Y % X < X := Nat.mod_lt _ h0
  have hRl : (dg (Y % X)).length ≤ 2 := Nat.le_trans (len_dg_le (Nat.lt_trans hR (lt_of_len (Nat.le_of_eq hL)))) h2l
  have HLY := hide (show lim (dg X) 0 + 4294967296 * lim (dg X) 1 = X by rw [val_two (by omega), val_dg])
  have HLR := hide (show lim (dg (Y % X)) 0 + 4294967296 * lim (dg (Y % X)) 1 = Y % X by rw [val_two (by omega), val_dg])
  have hG : Nat.gcd X (Y % X) = Nat.gcd X Y := gcd_step.trans (Nat.gcd_comm _ _)
  have hGb : Nat.gcd X Y ≤ 18446744073709551615 := Nat.le_trans (Nat.gcd_le_left Y h0) hXs
  have hRb : Y % X ≤ 18446744073709551615 := by omega
  have HM1 := hide (fun (W : World) (hb : Rd W A n c xs) => make_at A n c xs W X L hX hL hb (by omega))
  have HM2 := hide (fun (W : World) (hb : Rd W B m d ys) => make_at B m d ys W Y M hY hM hb (by omega))
  have HDM := hide (fun (A1 A2 : Option Addr) (c1 c2 : Nat) (W : World) (k1 : Rd W A1 L c1 (dg X)) (k2 : Rd W A2 M c2 (dg Y)) => (by
    have := divmod_calls A2 A1 M L c2 c1 _ _ W k2 k1 hMn hLn (by rw [val_dg]; exact h0)
    rwa [val_dg, val_dg] at this : Calls Try.prog 38 #[.slice A2 M c2, .slice A1 L c1] W (Gives3 W (dg (Y / X)) (dg (Y % X)) 0)))
  have HS := hide hr
  have HG := hide (And.intro hG hGb)
  clear hr hL hM h0 hle hX hY h2l hR hRl hG hGb
  go_enter Try.func39, Try.ntmps39
  go_wp2_with (first
      | (go_at_call 13; (with_reducible refine (unhide HM1 _ h).mono ?_); rintro e w1 ⟨A1, c1, rfl, hr1, hb1⟩; have h2w := h2.below hb1)
      | (go_at_call 13; (with_reducible refine (unhide HM2 _ h2w).mono ?_); rintro e w2 ⟨A2, c2, rfl, hr2, hb2⟩; have hr1' := hr1.below hb2)
      | (go_at_call 26; refine (cmp_calls _ _ _ _ _ _ _ _ _ r hr1' hr2 (by omega) (by omega) HS.out).mono ?_; rintro e w' ⟨rfl, q, rfl⟩; have hr1'' := hr1'.below (below_drewN (Below.refl _ _) q); have hr2'' := hr2.below (below_drewN (Below.refl _ _) q)))
  refine wp_loop_rounds 1 ?_
  rw [rounds_succ]
  go_wp2_with (first
      | (go_at_call 38; refine (unhide HDM _ _ _ _ _ hr1'' hr2'').mono ?_; rintro e w3 ⟨A3, c3, A4, c4, rfl, hr3, hr4, hb4⟩; have hr5 := hr1''.below hb4)
      | (go_at_call 42; (with_reducible refine (low_at A1 _ _ _ _ X HLY.out hr5).mono ?_); rintro e w' ⟨rfl, rfl⟩)
      | (go_at_call 42; (with_reducible refine (low_at A4 _ _ _ _ (Y % X) HLR.out hr4).mono ?_); rintro e w' ⟨rfl, rfl⟩)
      | (go_at_call 55; refine (sgcd_calls X (Y % X) _ hXs hRb).mono ?_; rintro e w' ⟨rfl, q2, rfl⟩)
      | (go_at_call 23; refine (of_int _ (Nat.gcd X Y) _ (by rw [HG.out.1]) HG.out.2).mono ?_; rintro e w6 ⟨A6, c6, rfl, hr6, hb6⟩))
  go_ret
  exact ⟨A6, c6, rfl, hr6, below_then (below_drewN (below_then (below_drewN (below_then hb1 (Nat.le_refl _) hb2) q) (Nat.le_refl _) hb4) q2) (Nat.le_refl _) hb6⟩
end
end Go.Proofs.Ytllbncipadjjgaa
