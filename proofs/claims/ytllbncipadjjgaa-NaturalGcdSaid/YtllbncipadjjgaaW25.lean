/-
  difference and window.
-/
import Derived.Test.YtllbncipadjjgaaW12
import Derived.Test.YtllbncipadjjgaaW7
import Derived.Test.YtllbncipadjjgaaN6
namespace Go.Proofs.Ytllbncipadjjgaa
open Go.RowKit
set_option linter.unusedVariables false
set_option linter.unusedSimpArgs false

theorem df_calls (A B : Option Addr) (n m c d : Nat) (P Q : List Nat) (x y R : Nat) (w : World) (h : Rd w A n c P) (h2 : Rd w B m d Q) (hn : n ≤ 1048576) (hm : m ≤ 1048576) (hx : x < 4294967296) (hy : y < 4294967296)
    (hv : val P * x = val Q * y + R) (hR : R < pw (min n m)) :
    Calls Try.prog 63 #[.slice A n c, .int .u64 (x : Int), .slice B m d, .int .u64 (y : Int)] w (Gives w (dg R)) := by
  obtain ⟨N, hN⟩ : ∃ N, N = min n m := ⟨_, rfl⟩
  have hmin : min (n : Int) (m : Int) = (N : Int) := by omega
  have hNn : N ≤ n := by omega
  have hNm : N ≤ m := by omega
  rw [← hN] at hR
  have hmk := fun W => run_mk 25 (.inr rfl) N (N : Int) rfl (by omega) W
  have HV := hide (And.intro hv (And.intro hR (And.intro h.len h2.len)))
  clear hv hR hN
  go_enter Try.func63, Try.ntmps63
  go_wp2
  go_loopw [10, 11, 23] (fun pl mi i wr => ∃ (k p1 m1 : Nat) (S : List Nat), k ≤ N ∧ i = .int .i64 k ∧ pl = .int .u64 p1 ∧ mi = .int .u64 m1 ∧ p1 ≤ 4294967295 ∧ m1 ≤ 4294967295 ∧ Below w.heap.size w wr ∧ Blk wr w.heap.size (arr S) ∧ Hid (DfInv S P Q x y N k p1 m1)) (fun _ _ i _ => N - (intOf i).toNat)
  case atStart => exact ⟨0, 0, 0, _, by omega, rfl, rfl, rfl, by omega, by omega, (Below.refl _ _).alloc (Nat.le_refl _) _, Blk.new _ _, df_start _ _ _ _ _⟩
  case round =>
    obtain ⟨k, p1, m1, S, hk, rfl, rfl, rfl, hp1, hm1, hb, hbl, HI⟩ := hrel
    by_cases hkn : k < N
    · have hbc : wr.cell? ⟨w.heap.size, k, none⟩ = some (.int .u32 (lim S k : Nat)) := blk_cell hbl (by have := HI.out.1; omega)
      have hbf := hbl.frozen k
      have hlP := h.sm.lim k
      have hlQ := h2.sm.lim k
      obtain ⟨t1, ht1⟩ : ∃ t1, t1 = p1 + lim P k * x := ⟨_, rfl⟩
      obtain ⟨t2, ht2⟩ : ∃ t2, t2 = m1 + lim Q k * y := ⟨_, rfl⟩
      have e1 : (p1 : Int) + (lim P k : Int) * (x : Int) = (t1 : Int) := by rw [ht1]; simp
      have e2 : (m1 : Int) + (lim Q k : Int) * (y : Int) = (t2 : Int) := by rw [ht2]; simp
      have b1 := mul_bound hlP hx
      have b2 := mul_bound hlQ hy
      have b10 : (0 : Int) ≤ (lim P k : Int) * (x : Int) := Int.mul_nonneg (by omega) (by omega)
      have b20 : (0 : Int) ≤ (lim Q k : Int) * (y : Int) := Int.mul_nonneg (by omega) (by omega)
      have b11 : (lim P k : Int) * (x : Int) ≤ 18446744065119617025 := by
        have : ((lim P k * x : Nat) : Int) = (lim P k : Int) * (x : Int) := by simp
        omega
      have b21 : (lim Q k : Int) * (y : Int) ≤ 18446744065119617025 := by
        have : ((lim Q k * y : Nat) : Int) = (lim Q k : Int) * (y : Int) := by simp
        omega
      have g1 : t1 ≤ 18446744069414584320 := by omega
      have g2 : t2 ≤ 18446744069414584320 := by omega
      obtain ⟨v, e, hv1, hv2, hv3, hv4⟩ := u32_less (show t1 % 4294967296 < 4294967296 by omega) (show t2 % 4294967296 < 4294967296 by omega)
      have hv5 : IntKind.u32.wrap ((t1 : Int) % 4294967296 - (t2 : Int) % 4294967296) = (v : Int) := by rw [← hv1]; simp
      have hst := df_step hkn ht1 ht2 hv2 hv3 HI.out
      obtain ⟨o1, f1, rfl, -, hc1⟩ := (h.below hb).get (k := k) (by omega)
      obtain ⟨o2, f2, rfl, -, hc2⟩ := (h2.below hb).get (k := k) (by omega)
      by_cases hlt : t1 % 4294967296 < t2 % 4294967296
      · rw [if_pos hlt] at hv4
        subst hv4
        have HS := hide hst
        have hl2 : (t1 : Int) % 4294967296 < (t2 : Int) % 4294967296 := by omega
        have g3 : t2 / 4294967296 + 1 ≤ 4294967295 := by omega
        clear hst ht1 ht2 hv1 hv3 hlt b1 b2
        go_wp2
        go_roundw
        case rel => exact ⟨k + 1, t1 / 4294967296, t2 / 4294967296 + 1, _, by omega, by go_num, by go_num, by go_num, by omega, g3, hb.setCell (Nat.le_refl _) _, blk_set hbl k v, HS⟩
        case measure => simp [intOf]; omega
      · rw [if_neg hlt] at hv4
        subst hv4
        have HS := hide hst
        have hl2 : ¬ (t1 : Int) % 4294967296 < (t2 : Int) % 4294967296 := by omega
        have hv6 : (t1 : Int) % 4294967296 - (t2 : Int) % 4294967296 = (v : Int) := by omega
        clear hst ht1 ht2 hv1 hv3 hlt b1 b2
        go_wp2
        go_roundw
        case rel => exact ⟨k + 1, t1 / 4294967296, t2 / 4294967296, _, by omega, by go_num, by go_num, by go_num, by omega, by omega, hb.setCell (Nat.le_refl _) _, blk_set hbl k v, HS⟩
        case measure => simp [intOf]; omega
    · obtain rfl : N = k := by omega
      have HE := hide (df_end (by have := HV.out.2.2.1; omega) (by have := HV.out.2.2.2; omega) HV.out.2.1 HV.out.1 HI.out)
      have hr := blk_rd0 (c := N) hbl HI.out.2.1 HI.out.1 (by omega)
      go_wp2_with (go_at_call 41; refine (trim_calls _ _ _ _ _ hr (by omega)).mono ?_; rintro e w' ⟨A1, c1, rfl, rfl, hr1, -⟩)
      go_ret
      exact gives_trim HI.out.2.1 HE.out hr1 hb
end Go.Proofs.Ytllbncipadjjgaa
