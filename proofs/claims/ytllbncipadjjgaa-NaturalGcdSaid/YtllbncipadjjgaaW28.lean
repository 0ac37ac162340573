/-
  reduce.
-/
import Derived.Test.YtllbncipadjjgaaW27
import Derived.Test.YtllbncipadjjgaaW18
import Derived.Deep.RegionHeld3
namespace Go.Proofs.Ytllbncipadjjgaa
open Go.RowKit
set_option linter.unusedVariables false
set_option linter.unusedSimpArgs false

theorem nb_dg {X L : Nat} (hL : (dg X).length = L + 1) : ∃ r, nb (dg X) = r ∧ 32 * L + 1 ≤ r ∧ r ≤ 32 * L + 32 ∧ X < 2 ^ r := by
  have ht := tlen_dg X
  rw [hL] at ht
  have htop := tlen_top (xs := dg X) (by omega)
  have hsm := (sm_dg X).lim L
  refine ⟨_, rfl, ?_⟩
  unfold nb
  rw [if_neg (by omega), ht]
  rw [ht] at htop
  rw [show L + 1 - 1 = L by omega] at htop ⊢
  obtain ⟨h1, h2, h3⟩ := Lib.bitLenAux_bounds 64 (lim (dg X) L) (by omega) htop
  have hle : Lib.bitLen (lim (dg X) L) ≤ 32 := Lib.bitLen_le _ 32 (by omega) (by omega)
  have h1' : 1 ≤ Lib.bitLen (lim (dg X) L) := h1
  have h3' : lim (dg X) L < 2 ^ Lib.bitLen (lim (dg X) L) := h3
  clear h1 h2 h3
  generalize Lib.bitLen (lim (dg X) L) = b at *
  refine ⟨by omega, by omega, ?_⟩
  have e := pv_succ (dg X) L
  rw [pv_len (k := L + 1) (by omega), val_dg] at e
  have hp := pv_lt (sm_dg X) L
  have hm : pw L * (lim (dg X) L + 1) ≤ pw L * 2 ^ b := Nat.mul_le_mul_left _ (by omega)
  rw [Nat.pow_add, ← pw_pow]
  rw [Nat.mul_add, Nat.mul_one] at hm
  omega

/-- What reduce gives. -/
def RdOut (w : World) (X Y : Nat) (e : Ending) (w' : World) : Prop := ∃ X' Y', Gives2 w (dg X') (dg Y') e w' ∧ Y' ≤ X' ∧ X' ≤ X ∧ Y' < Y ∧ Nat.gcd X' Y' = Nat.gcd X Y
section
variable (A B : Option Addr) (n m c d : Nat) (X Y : Nat) (w : World) (h : Rd w A n c (dg X)) (h2 : Rd w B m d (dg Y)) (hn : n ≤ 65536) (hle : Y ≤ X) (h3 : 3 ≤ m)
include h h2 hn hle h3
set_option maxHeartbeats 1600000 in
theorem red_calls : Calls Try.prog 54 #[.slice A n c, .slice B m d] w (RdOut w X Y) := by
  have hnl := h.len
  have hml := h2.len
  have hmn : m ≤ n := by
    have := tlen_mono (sm_dg Y) (sm_dg X) (by rw [val_dg, val_dg]; exact hle)
    rw [tlen_dg, tlen_dg] at this
    omega
  obtain ⟨r, hr, hr1, hr2, hrX⟩ := nb_dg (X := X) (L := n - 1) (by omega)
  obtain ⟨s, rfl⟩ : ∃ s, r = s + 64 := ⟨r - 64, by omega⟩
  have hs : s ≤ 67108864 := by omega
  have hrY : Y < 2 ^ (s + 64) := Nat.lt_of_le_of_lt hle hrX
  obtain ⟨x0, hx0⟩ : ∃ x0, x0 = X / 2 ^ s := ⟨_, rfl⟩
  obtain ⟨y0, hy0⟩ : ∃ y0, y0 = Y / 2 ^ s := ⟨_, rfl⟩
  have hyx : y0 ≤ x0 := by rw [hx0, hy0]; exact Nat.div_le_div_right hle
  have hx64 : x0 ≤ 18446744073709551615 := by
    have : x0 < 2 ^ 64 := by
      rw [hx0]
      apply Nat.div_lt_of_lt_mul
      rwa [Nat.pow_add] at hrX
    have e : (2 : Nat) ^ 64 = 18446744073709551616 := by decide
    omega
  have hY0 : 0 < Y := by
    rcases Nat.eq_zero_or_pos Y with h0 | h0
    · subst h0; rw [dg_zero] at hml; simp at hml; omega
    · exact h0
  have hYm : Y < pw m := lt_of_len (Nat.le_of_eq hml)
  have HX := hide (show X = x0 * 2 ^ s + X % 2 ^ s by rw [hx0, Nat.mul_comm]; exact (Nat.div_add_mod _ _).symm)
  have HY := hide (show Y = y0 * 2 ^ s + Y % 2 ^ s by rw [hy0, Nat.mul_comm]; exact (Nat.div_add_mod _ _).symm)
  have HXm := hide (Nat.mod_lt X (Nat.two_pow_pos s))
  have HYm := hide (Nat.mod_lt Y (Nat.two_pow_pos s))
  have HBI := hide (bits_calls A n c (dg X) w _ hr h (by omega))
  have HW1 := hide (fun (W : World) (v : Int) (hv : v = (s : Int)) (k : Rd W A n c (dg X)) => (by
    subst hv
    exact win_calls A n c (dg X) W s x0 k hs (by rw [val_dg]; exact hrX) (by rw [val_dg, hx0]) : Calls Try.prog 62 #[.slice A n c, .int .i64 v] W fun e w' => e = .returned (.int .u64 (x0 : Int)) ∧ ∃ q, w' = W.drewN q))
  have HW2 := hide (fun (W : World) (v : Int) (hv : v = (s : Int)) (k : Rd W B m d (dg Y)) => (by
    subst hv
    exact win_calls B m d (dg Y) W s y0 k hs (by rw [val_dg]; exact hrY) (by rw [val_dg, hy0]) : Calls Try.prog 62 #[.slice B m d, .int .i64 v] W fun e w' => e = .returned (.int .u64 (y0 : Int)) ∧ ∃ q, w' = W.drewN q))
  have HDM := hide (fun (W : World) (k1 : Rd W A n c (dg X)) (k2 : Rd W B m d (dg Y)) => (by
    have := divmod_calls A B n m c d _ _ W k1 k2 hn (by omega) (by rw [val_dg]; exact hY0)
    rwa [val_dg, val_dg] at this : Calls Try.prog 38 #[.slice A n c, .slice B m d] W (Gives3 W (dg (X / Y)) (dg (X % Y)) 0)))
  have HLE := hide (And.intro hle (And.intro hY0 hYm))
  clear hr hr1 hr2 hrX hrY hx0 hy0 hle hY0 hYm hnl hml
  go_enter Try.func54, Try.ntmps54
  go_wp2_with fail
  refine (unhide HBI).mono ?_
  rintro e w' ⟨rfl, rfl⟩
  go_wp2_with fail
  refine (unhide HW1 _ _ (by simp) h).mono ?_
  rintro e w' ⟨rfl, q1, rfl⟩
  go_wp2_with fail
  refine (unhide HW2 _ _ (by omega) (h2.below (below_drewN (Below.refl _ _) q1))).mono ?_
  rintro e w' ⟨rfl, q2, rfl⟩
  go_wp2_with fail
  refine (ls_calls x0 y0 _ hx64 hyx).mono ?_
  rintro e w1 ⟨a, b, c1, d1, odd, rfl, hacc, hb1⟩
  have hb2 : Below w.heap.size w w1 := below_then (below_drewN (Below.refl _ _) _) (Nat.le_refl _) hb1
  clear hb1
  rcases Nat.eq_zero_or_pos b with hb0 | hb0
  · subst hb0
    clear hacc
    go_wp2_with fail
    refine (unhide HDM _ ((h.below hb2).below ((Below.refl _ _).alloc (Nat.le_refl _) _)) ((h2.below hb2).below ((Below.refl _ _).alloc (Nat.le_refl _) _))).mono ?_
    rintro e w3 ⟨A3, c3, A4, c4, rfl, hr3, hr4, hb4⟩
    go_wp2
    go_ret2
    exact ⟨Y, X % Y, ⟨B, d, A4, c4, by rw [h2.len]; rfl, by rw [h2.len]; exact ((h2.below hb2).below ((Below.refl _ _).alloc (Nat.le_refl _) _)).below hb4, hr4, below_then (hb2.alloc hb2.size _) (Nat.le_refl _) hb4⟩, Nat.le_of_lt (Nat.mod_lt _ HLE.out.2.1), HLE.out.1, Nat.mod_lt _ HLE.out.2.1, by rw [Nat.gcd_comm Y, ← Nat.gcd_rec, Nat.gcd_comm]⟩
  · have hcof := hacc.resolve_left (by omega)
    clear hacc
    obtain ⟨x, y, hcof, hdy, hbd, hb1, ha32, hb32, hc32, hd32⟩ := hcof
    have hb0 : ((b : Int) == 0) = false := by simp; omega
    have HW := hide (cof_whole hcof hb1 HX.out HY.out HXm.out HYm.out hdy hbd)
    clear hcof hdy hbd
    obtain ⟨A', B', hw1, hw2, hw3, hw4⟩ := HW.out
    clear HW
    cases odd
    · simp only [Bool.false_eq_true, if_false] at hw1
      have HD1 := hide (fun (W : World) (k1 : Rd W A n c (dg X)) (k2 : Rd W B m d (dg Y)) => (df_calls A B n m c d _ _ a b A' W k1 k2 (by omega) (by omega) (by omega) (by omega) (by rw [val_dg, val_dg, Nat.mul_comm X, Nat.mul_comm Y]; exact hw1.1) (by rw [Nat.min_eq_right hmn]; exact Nat.lt_of_le_of_lt hw3 HLE.out.2.2)))
      have HD2 := hide (fun (W : World) (k1 : Rd W A n c (dg X)) (k2 : Rd W B m d (dg Y)) => (df_calls B A m n d c _ _ d1 c1 B' W k2 k1 (by omega) (by omega) (by omega) (by omega) (by rw [val_dg, val_dg, Nat.mul_comm X, Nat.mul_comm Y]; exact hw1.2) (by rw [Nat.min_eq_left hmn]; exact Nat.lt_of_lt_of_le hw2 (Nat.le_of_lt (Nat.lt_of_le_of_lt hw3 HLE.out.2.2)))))
      clear hw1
      have hk := blk5_new (w := w1) (a := a) (b := b) (c := c1) (d := d1) (odd := false) rfl
      have hb3 := hb2.alloc hb2.size (.cells #[.int .u64 (a : Int), .int .u64 (b : Int), .int .u64 (c1 : Int), .int .u64 (d1 : Int), .bool false] 65)
      have hg : w1.heap.size < (w1.alloc (.cells #[.int .u64 (a : Int), .int .u64 (b : Int), .int .u64 (c1 : Int), .int .u64 (d1 : Int), .bool false] 65)).heap.size := by simp
      have hgw := hb2.size
      go_wp2_with fail
      generalize w1.alloc (.cells #[.int .u64 (a : Int), .int .u64 (b : Int), .int .u64 (c1 : Int), .int .u64 (d1 : Int), .bool false] 65) = W0 at hk hb3 hg ⊢
      clear hb2
      generalize w1.heap.size = G at hk hb3 hg hgw ⊢
      have hS := hk.cells
      have hb5 : Below w.heap.size w W0.drew := below_drewN hb3 1
      have hrA := h.below hb5
      have hrB := h2.below hb5
      have hk' : Blk5 W0.drew G a b c1 d1 false := hk
      have hg' : G < W0.drew.heap.size := hg
      go_region_held3 (fun w' => w'.cell? ⟨G, 0, none⟩ = some (.int .u64 (a : Int)) ∧ w'.cell? ⟨G, 1, none⟩ = some (.int .u64 (b : Int)) ∧ w'.cell? ⟨G, 2, none⟩ = some (.int .u64 (c1 : Int)) ∧ w'.cell? ⟨G, 3, none⟩ = some (.int .u64 (d1 : Int)))
        (first
          | exact ⟨hS5.1, hS5.2.1, hS5.2.2.1, hS5.2.2.2.1⟩
          | exact ⟨hS3.1, hS3.2.1, hS3.2.2.1, hS3.2.2.2.1⟩
          | exact ⟨hS.1, hS.2.1, hS.2.2.1, hS.2.2.2.1⟩
          | fail)
        (first
          | (go_at_call 63; (with_reducible refine (unhide HD1 _ hrA hrB).mono ?_); rintro e w3 ⟨A3, c3, rfl, hr3, hb4⟩; have hk3 := hk'.below hb4 hg'; have hS3 := hk3.cells; have hg3 := hk3.lt; have hrA3 := hrA.below hb4; have hrB3 := hrB.below hb4; have hb6 := below_then hb5 (Nat.le_refl _) hb4)
          | (go_at_call 63; (with_reducible refine (unhide HD2 _ hrA3 hrB3).mono ?_); rintro e w4 ⟨A4, c4, rfl, hr4, hb7⟩; have hS5 := (hk3.below hb7 hg3).cells)
          | fail)
      go_wp2
      go_ret2
      exact ⟨A', B', ⟨A3, c3, A4, c4, rfl, hr3.below hb7, hr4, below_then hb6 (Nat.le_refl _) hb7⟩, Nat.le_of_lt hw2, Nat.le_trans hw3 HLE.out.1, Nat.lt_of_lt_of_le hw2 hw3, hw4⟩
    · simp only [if_true] at hw1
      have HD1 := hide (fun (W : World) (k1 : Rd W A n c (dg X)) (k2 : Rd W B m d (dg Y)) => (df_calls B A m n d c _ _ b a A' W k2 k1 (by omega) (by omega) (by omega) (by omega) (by rw [val_dg, val_dg, Nat.mul_comm X, Nat.mul_comm Y]; exact hw1.1) (by rw [Nat.min_eq_left hmn]; exact Nat.lt_of_le_of_lt hw3 HLE.out.2.2)))
      have HD2 := hide (fun (W : World) (k1 : Rd W A n c (dg X)) (k2 : Rd W B m d (dg Y)) => (df_calls A B n m c d _ _ c1 d1 B' W k1 k2 (by omega) (by omega) (by omega) (by omega) (by rw [val_dg, val_dg, Nat.mul_comm X, Nat.mul_comm Y]; exact hw1.2) (by rw [Nat.min_eq_right hmn]; exact Nat.lt_of_lt_of_le hw2 (Nat.le_of_lt (Nat.lt_of_le_of_lt hw3 HLE.out.2.2)))))
      clear hw1
      have hk := blk5_new (w := w1) (a := a) (b := b) (c := c1) (d := d1) (odd := true) rfl
      have hb3 := hb2.alloc hb2.size (.cells #[.int .u64 (a : Int), .int .u64 (b : Int), .int .u64 (c1 : Int), .int .u64 (d1 : Int), .bool true] 65)
      have hg : w1.heap.size < (w1.alloc (.cells #[.int .u64 (a : Int), .int .u64 (b : Int), .int .u64 (c1 : Int), .int .u64 (d1 : Int), .bool true] 65)).heap.size := by simp
      have hgw := hb2.size
      go_wp2_with fail
      generalize w1.alloc (.cells #[.int .u64 (a : Int), .int .u64 (b : Int), .int .u64 (c1 : Int), .int .u64 (d1 : Int), .bool true] 65) = W0 at hk hb3 hg ⊢
      clear hb2
      generalize w1.heap.size = G at hk hb3 hg hgw ⊢
      have hS := hk.cells
      have hb5 : Below w.heap.size w W0.drew := below_drewN hb3 1
      have hrA := h.below hb5
      have hrB := h2.below hb5
      have hk' : Blk5 W0.drew G a b c1 d1 true := hk
      have hg' : G < W0.drew.heap.size := hg
      go_region_held3 (fun w' => w'.cell? ⟨G, 0, none⟩ = some (.int .u64 (a : Int)) ∧ w'.cell? ⟨G, 1, none⟩ = some (.int .u64 (b : Int)) ∧ w'.cell? ⟨G, 2, none⟩ = some (.int .u64 (c1 : Int)) ∧ w'.cell? ⟨G, 3, none⟩ = some (.int .u64 (d1 : Int)))
        (first
          | exact ⟨hS5.1, hS5.2.1, hS5.2.2.1, hS5.2.2.2.1⟩
          | exact ⟨hS3.1, hS3.2.1, hS3.2.2.1, hS3.2.2.2.1⟩
          | exact ⟨hS.1, hS.2.1, hS.2.2.1, hS.2.2.2.1⟩
          | fail)
        (first
          | (go_at_call 63; (with_reducible refine (unhide HD1 _ hrA hrB).mono ?_); rintro e w3 ⟨A3, c3, rfl, hr3, hb4⟩; have hk3 := hk'.below hb4 hg'; have hS3 := hk3.cells; have hg3 := hk3.lt; have hrA3 := hrA.below hb4; have hrB3 := hrB.below hb4; have hb6 := below_then hb5 (Nat.le_refl _) hb4)
          | (go_at_call 63; (with_reducible refine (unhide HD2 _ hrA3 hrB3).mono ?_); rintro e w4 ⟨A4, c4, rfl, hr4, hb7⟩; have hS5 := (hk3.below hb7 hg3).cells)
          | fail)
      go_wp2
      go_ret2
      exact ⟨A', B', ⟨A3, c3, A4, c4, rfl, hr3.below hb7, hr4, below_then hb6 (Nat.le_refl _) hb7⟩, Nat.le_of_lt hw2, Nat.le_trans hw3 HLE.out.1, Nat.lt_of_lt_of_le hw2 hw3, hw4⟩
end
end Go.Proofs.Ytllbncipadjjgaa
