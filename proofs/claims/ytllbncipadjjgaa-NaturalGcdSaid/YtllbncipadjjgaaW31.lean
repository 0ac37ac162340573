/-
  The specification's Gcd.
-/
import Derived.Test.YtllbncipadjjgaaW30
import Derived.Test.YtllbncipadjjgaaW29
namespace Go.Proofs.Ytllbncipadjjgaa
open Go.RowKit
set_option linter.unusedVariables false
set_option linter.unusedSimpArgs false

def RgRel (G : Nat) (w : World) (av bv : Value) (wr : World) : Prop :=
  ∃ (x y : Nat) (A1 : Option Addr) (L c1 : Nat) (A2 : Option Addr) (M c2 : Nat), av = .slice A1 L c1 ∧ bv = .slice A2 M c2 ∧ Rd wr A1 L c1 (dg x) ∧ Rd wr A2 M c2 (dg y) ∧ Below w.heap.size w wr ∧ L ≤ 16384 ∧ M ≤ 16384 ∧ Nat.gcd x y = G
theorem rgcd_calls (A B : Option Addr) (n m c d : Nat) (xs ys : List Nat) (w : World) (X Y : Nat) (h : Rd w A n c xs) (h2 : Rd w B m d ys) (hn : n ≤ 16384) (hm : m ≤ 16384) (hX : val xs = X) (hY : val ys = Y) :
    Calls Try.prog 40 #[.slice A n c, .slice B m d] w (Gives w (dg (Nat.gcd X Y))) := by
  obtain ⟨L, hL⟩ : ∃ L, (dg X).length = L := ⟨_, rfl⟩
  obtain ⟨M, hM⟩ : ∃ M, (dg Y).length = M := ⟨_, rfl⟩
  have hLn : L ≤ 16384 := by rw [← hL, ← hX, len_dg_val h.sm]; have := tlen_le xs; have := h.len; omega
  have hMn : M ≤ 16384 := by rw [← hM, ← hY, len_dg_val h2.sm]; have := tlen_le ys; have := h2.len; omega
  have HM1 := hide (fun (W : World) (hb : Rd W A n c xs) => (by
    have := rmake_len A n c xs W L (by rw [hX]; exact hL) hb (by omega)
    rwa [hX] at this : Calls Try.prog 18 #[.slice A n c] W fun e w' => ∃ A1 c1, e = .returned (.slice A1 L c1) ∧ Rd w' A1 L c1 (dg X) ∧ Below W.heap.size W w'))
  have HM2 := hide (fun (W : World) (hb : Rd W B m d ys) => (by
    have := rmake_len B m d ys W M (by rw [hY]; exact hM) hb (by omega)
    rwa [hY] at this : Calls Try.prog 18 #[.slice B m d] W fun e w' => ∃ A1 c1, e = .returned (.slice A1 M c1) ∧ Rd w' A1 M c1 (dg Y) ∧ Below W.heap.size W w'))
  obtain ⟨G, hG⟩ : ∃ G, G = Nat.gcd X Y := ⟨_, rfl⟩
  rw [← hG]
  have HG := hide hG
  clear hL hM hX hY hG
  go_enter Try.func40, Try.ntmps40
  go_wp2_with fail
  refine (unhide HM1 _ h).mono ?_
  rintro e w1 ⟨A1, c1, rfl, hr1, hb1⟩
  have h2w := h2.below hb1
  go_wp2_with fail
  refine (unhide HM2 _ h2w).mono ?_
  rintro e w2 ⟨A2, c2, rfl, hr2, hb2⟩
  have hr1' := hr1.below hb2
  go_wp2_with fail
  go_loopw [0, 1] (fun av bv wr => RgRel G w av bv wr) (fun _ bv wr => vOf wr bv)
  case atStart => exact ⟨X, Y, A1, L, c1, A2, M, c2, rfl, rfl, hr1', hr2, below_then hb1 (Nat.le_refl _) hb2, hLn, hMn, HG.out.symm⟩
  case round =>
    obtain ⟨x, y, B1, L1, d1, B2, M1, d2, rfl, rfl, k1, k2, hb, hL1, hM1, hg⟩ := hrel
    have hl1 := k1.len
    have hl2 := k2.len
    by_cases hM0 : M1 = 0
    · subst hM0
      have hy0 : y = 0 := dg_nil_iff.1 (List.eq_nil_of_length_eq_zero hl2)
      subst hy0
      rw [Nat.gcd_zero_right] at hg
      subst hg
      have HK := hide hl1
      clear hl1 hl2
      go_wp2
      go_ret
      exact ⟨B1, d1, by rw [HK.out]; rfl, by rw [HK.out]; exact k1, hb⟩
    · have hy0 : 0 < y := by
        rcases Nat.eq_zero_or_pos y with h0 | h0
        · rw [h0, dg_zero] at hl2; simp at hl2; omega
        · exact h0
      have HDM := hide (by
        have := rdivmod_calls B1 B2 L1 M1 d1 d2 _ _ wr k1 k2 hL1 hM1 (by rw [val_dg]; exact hy0)
        rwa [val_dg, val_dg] at this : Calls Try.prog 56 #[.slice B1 L1 d1, .slice B2 M1 d2] wr (Gives3 wr (dg (x / y)) (dg (x % y)) 0))
      have HK := hide (And.intro hg (And.intro hl2 hy0))
      clear hg hl1 hl2 hy0
      go_wp2_with fail
      refine (unhide HDM).mono ?_
      rintro e w3 ⟨A3, c3, A4, c4, rfl, hr3, hr4, hb4⟩
      have k3 := k2.below hb4
      go_wp2
      go_roundw
      case rel => exact ⟨y, x % y, B2, M1, d2, A4, _, c4, rfl, rfl, k3, hr4, below_then hb (Nat.le_refl _) hb4, hM1, Nat.le_trans (len_dg_le (Nat.lt_trans (Nat.mod_lt _ HK.out.2.2) (lt_of_len (Nat.le_of_eq HK.out.2.1)))) hM1, gcd_step.trans HK.out.1⟩
      case measure =>
        show vOf _ (.slice A4 _ c4) < vOf _ (.slice B2 M1 d2)
        rw [vOf_eq hr4, vOf_eq k2, val_dg, val_dg]
        exact Nat.mod_lt _ HK.out.2.2
end Go.Proofs.Ytllbncipadjjgaa
