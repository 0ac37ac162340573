/-
  Shl and Shr.
-/
import Derived.Test.YtefcpcekoihgjaaW9
import Derived.Test.YtefcpcekoihgjaaW5
namespace Go.Proofs.Ytefcpcekoihgjaa
open Go.RowKit
set_option linter.unusedVariables false
set_option linter.unusedSimpArgs false

theorem rd_drop {w : World} {b off n c : Nat} {xs : List Nat} (h : Rd w (some ⟨b, off, none⟩) n c xs) {k : Nat} (hk : k ≤ n) : Rd w (some ⟨b, off + k, none⟩) (n - k) (c - k) (xs.drop k) := by
  refine ⟨by rw [List.length_drop, h.len], h.sm.drop k, by have := h.cap; omega, fun hn => ?_⟩
  obtain ⟨b1, off1, hA, hb, hc⟩ := h.at_ (by omega)
  injection hA with hA
  injection hA with h1 h2
  subst h1 h2
  refine ⟨b, off + k, rfl, hb, fun j hj => ?_⟩
  rw [lim_drop, Nat.add_assoc]
  exact hc (k + j) (by omega)
theorem shr_bad (A : Option Addr) (n c : Nat) (w : World) (k : Int) (hk : k < 0 ∨ 1048576 < k) :
    Calls Try.prog 69 #[.slice A n c, .int .i64 k] w (GivesE w [] 2) := by
  by_cases h0 : k < 0
  · clear hk
    go_enter Try.func69, Try.ntmps69
    go_wp2
    go_ret2
    exact ⟨none, 0, rfl, Rd.empty _ _ _, Below.refl _ _⟩
  · have h1 : 1048576 < k := by omega
    have hd : decide (k < 0) = false := by simp; omega
    clear hk
    go_enter Try.func69, Try.ntmps69
    go_wp2
    go_ret2
    exact ⟨none, 0, rfl, Rd.empty _ _ _, Below.refl _ _⟩

theorem shr_ok (A : Option Addr) (n c : Nat) (xs : List Nat) (w : World) (k : Nat) (h : Rd w A n c xs) (hn : n ≤ 1048576) (hk : k ≤ 1048576) :
    Calls Try.prog 69 #[.slice A n c, .int .i64 (k : Int)] w (GivesE w (dg (val xs / 2 ^ k)) 0) := by
  have hn4 : n ≤ 4194304 := by omega
  have hd1 : decide ((k : Int) < 0) = false := by simp
  have hd2 : decide ((1048576 : Int) < (k : Int)) = false := by simp; omega
  have ht : tlen xs ≤ 1048576 := by have := tlen_le xs; have := h.len; omega
  by_cases h0 : k / 32 < tlen xs
  · have hmin : min ((k : Int) / 32) ((tlen xs : Nat) : Int) = (k : Int) / 32 := by omega
    have HV := hide (val_trim h.sm)
    have hmk := fun W => run_mk 23 (.inr rfl) (tlen xs - k / 32) ((tlen xs : Int) - (k : Int) / 32) (by omega) (by omega) W
    have hmk2 := fun W => run_mk 23 (.inr rfl) (tlen xs - k / 32) ((tlen xs - k / 32 : Nat) : Int) (by omega) (by omega) W
    go_enter Try.func69, Try.ntmps69
    go_wp2_with (go_at_call 56; (with_reducible refine (trim_calls A n c xs _ h hn4).mono ?_); rintro e w' ⟨A1, c1, rfl, rfl, hr1, -⟩; have hc1 := hr1.cap; obtain ⟨b0, off, rfl, hbs, hc0⟩ := hr1.at_ (by omega); have HC0 := hide hc0; clear hc0)
    have hry := rd_drop hr1 (k := k / 32) (by omega)
    have HE := hide (shr_whole (hr1.sm) k)
    clear hr1 HC0
    go_loopw [28] (fun i wr => ∃ (j : Nat) (S : List Nat), j ≤ tlen xs - k / 32 ∧ i = .int .i64 j ∧ Below w.heap.size w wr ∧ Blk wr w.heap.size (arr S) ∧ Hid (ShrInv S ((xs.take (tlen xs)).drop (k / 32)) (k % 32) (tlen xs - k / 32) j)) (fun i _ => tlen xs - k / 32 - (intOf i).toNat)
    case atStart => exact ⟨0, _, by omega, rfl, (Below.refl _ _).alloc (Nat.le_refl _) _, Blk.new _ _, shr_start _ _ _⟩
    case round =>
      obtain ⟨j, S, hj, rfl, hb, hbl, HI⟩ := hrel
      by_cases hjn : j < tlen xs - k / 32
      · have hl := HI.out.1
        have hbc : wr.cell? ⟨w.heap.size, j, none⟩ = some (.int .u32 (lim S j : Nat)) := blk_cell hbl (by omega)
        have hbf := hbl.frozen j
        have hrw := hry.below hb
        have hz := or_hi (hry.sm.lim j) (hry.sm.lim (j + 1))
        have hl1 := hry.sm.lim j
        have hl2 := hry.sm.lim (j + 1)
        obtain ⟨z, hzz⟩ : ∃ z, z = lim ((xs.take (tlen xs)).drop (k / 32)) j + 4294967296 * lim ((xs.take (tlen xs)).drop (k / 32)) (j + 1) := ⟨_, rfl⟩
        rw [← hzz] at hz
        obtain ⟨v, hv⟩ : ∃ v, v = z / 2 ^ (k % 32) % 4294967296 := ⟨_, rfl⟩
        have hv1 : (z : Int) / 2 ^ (k % 32) % 4294967296 = (v : Int) := by rw [hv]; simp
        have hstep := shr_step (v := v) (Nat.mod_lt k (by omega)) hry.sm hjn (by rw [hv, hzz]) HI.out
        have HS := hide hstep
        have HJ := hide (show ((j : Int) + 1) = ((j + 1 : Nat) : Int) by omega)
        clear hstep hv hzz hl
        go_wp2_with (first
          | (go_at_call 59; (with_reducible refine (limb_calls _ _ _ _ _ j hrw).mono ?_); rintro e w' ⟨rfl, rfl⟩)
          | (go_at_call 59; (with_reducible refine (limb_int _ _ _ _ _ _ (j + 1) HJ.out hrw).mono ?_); rintro e w' ⟨rfl, rfl⟩))
        go_roundw
        case rel => exact ⟨j + 1, _, by omega, by go_num, hb.setCell (Nat.le_refl _) _, blk_set hbl j v, HS⟩
        case measure => simp [intOf]; omega
      · obtain rfl : j = tlen xs - k / 32 := by omega
        have hr2 := blk_rd0 (c := tlen xs - k / 32) hbl HI.out.2.1 HI.out.1 (by omega)
        have HF := hide (shr_end hry.sm hry.len HI.out)
        go_wp2_with (go_at_call 56; refine (trim_calls _ _ _ _ _ hr2 (by omega)).mono ?_; rintro e w' ⟨A2, c2, rfl, rfl, hr3, -⟩)
        go_ret2
        refine gives_err (gives_trim HI.out.2.1 ?_ hr3 hb) 0
        rw [HF.out, HE.out, HV.out]
  · have hmin : min ((k : Int) / 32) ((tlen xs : Nat) : Int) = ((tlen xs : Nat) : Int) := by omega
    have hv0 : val xs / 2 ^ k = 0 := by
      rw [← val_trim h.sm]
      exact shr_zero (h.sm.take _) (by rw [List.length_take]; omega)
    rw [hv0]
    clear hv0
    have hmk2 := fun W => run_mk 23 (.inr rfl) 0 0 (by omega) (by omega) W
    go_enter Try.func69, Try.ntmps69
    go_wp2_with (go_at_call 56; (with_reducible refine (trim_calls A n c xs _ h hn4).mono ?_); rintro e w' ⟨A1, c1, rfl, rfl, hr1, -⟩; have hc1 := hr1.cap; clear hr1)
    all_goals
      refine wp_loop_rounds 1 ?_
      rw [rounds_succ]
      go_wp2_with (go_at_call 56; refine (trim_calls _ 0 0 [] _ (Rd.empty _ _ _) (by omega)).mono ?_; rintro e w' ⟨A2, c2, rfl, rfl, hr3, -⟩)
      go_ret2
      exact gives_err (gives_trim Sm.nil rfl hr3 ((Below.refl _ _).alloc (Nat.le_refl _) _)) 0
end Go.Proofs.Ytefcpcekoihgjaa
