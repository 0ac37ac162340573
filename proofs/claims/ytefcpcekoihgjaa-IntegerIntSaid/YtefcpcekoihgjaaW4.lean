/-
  Add and Sub.
-/
import Derived.Test.YtefcpcekoihgjaaApp
import Derived.Test.YtefcpcekoihgjaaW2
import Derived.Test.YtefcpcekoihgjaaW3
import Derived.Test.YtefcpcekoihgjaaN2
namespace Go.Proofs.Ytefcpcekoihgjaa
open Go.RowKit
set_option linter.unusedVariables false
set_option linter.unusedSimpArgs false

/-- What the trimming of a block of limbs gives. -/
theorem gives_trim {w w' : World} {S : List Nat} {A : Option Addr} {c N : Nat} (hs : Sm S) (hv : val S = N) (hr : Rd w' A (tlen S) c (S.take (tlen S))) (hb : Below w.heap.size w w') :
    Gives w (dg N) (.returned (.slice A (tlen S) c)) w' := by
  have h1 := len_dg_val hs
  have h2 := dg_val hs
  rw [hv] at h1 h2
  exact ⟨A, c, by rw [h1], by rw [h1, h2]; exact hr, hb⟩

theorem add_calls_le (A B : Option Addr) (n m c d : Nat) (xs ys : List Nat) (w : World) (h : Rd w A n c xs) (h2 : Rd w B m d ys) (hn : n ≤ 1048576) (hmn : m ≤ n) :
    Calls Try.prog 46 #[.slice A n c, .slice B m d] w (Gives w (dg (val xs + val ys))) := by
  have hmk := fun W => run_mk 23 (.inr rfl) (n + 1) ((n : Int) + 1) (by omega) (by omega) W
  have hd : decide (n < m) = false := by simp; omega
  go_enter Try.func46, Try.ntmps46
  go_wp2
  go_loopw [6, 22] (fun cy i wr => ∃ (k cc : Nat) (S : List Nat), k ≤ n ∧ i = .int .i64 k ∧ cy = .int .u64 cc ∧ cc ≤ 1 ∧ Below w.heap.size w wr ∧ Blk wr w.heap.size (arr S) ∧ Hid (S.length = n + 1 ∧ Sm S ∧ pv S k + pw k * cc = pv xs k + pv ys k)) (fun _ i _ => n - (intOf i).toNat)
  case atStart =>
    exact ⟨0, 0, zs (n + 1), by omega, rfl, rfl, by omega, (Below.refl _ _).alloc (Nat.le_refl _) _, Blk.new _ _, zs_len _, zs_sm _, by rw [zs_pv, pv_zero, pv_zero, Nat.mul_zero]⟩
  case round =>
    obtain ⟨k, cc, S, hk, rfl, rfl, hcc, hb, hbl, HI⟩ := hrel
    have hx := h.sm.lim k
    have hy := h2.sm.lim k
    have hbc : wr.cell? ⟨w.heap.size, k, none⟩ = some (.int .u32 (lim S k : Nat)) := blk_cell hbl (by have := HI.out.1; omega)
    have hbf := hbl.frozen k
    by_cases hkn : k < n
    · obtain ⟨b, off, hA, _, hc⟩ := (h.below hb).get hkn
      subst hA
      have hr2 := h2.below hb
      go_wp2_with (go_at_call 59; refine (limb_calls B m d ys _ k hr2).mono ?_; rintro e w' ⟨rfl, rfl⟩)
      go_roundw
      case rel =>
        refine ⟨k + 1, _, _, by omega, by go_num, congrArg _ ?_, ?_, hb.setCell (Nat.le_refl _) _, ?_, add_step hkn hcc hx hy HI.out⟩
        · omega
        · omega
        · have := blk_set hbl k ((cc + (lim xs k + lim ys k)) % 4294967296)
          rwa [show (((cc + (lim xs k + lim ys k)) % 4294967296 : Nat) : Int) = ((cc : Int) + ((lim xs k : Int) + (lim ys k : Int))) % 4294967296 from by omega] at this
      case measure => simp [intOf]; omega
    · obtain rfl : n = k := by omega
      obtain ⟨e1, e2, e3⟩ := add_end hcc (by rw [h.len]; omega) (by rw [h2.len]; omega) HI.out
      have hbl2 := blk_set hbl n cc
      have hr := blk_rd0 (c := n + 1) hbl2 e2 e1 (by omega)
      have E := hide (And.intro e1 (And.intro e2 e3))
      clear e1 e2 e3
      go_wp2_with (go_at_call 56; refine (trim_calls _ _ _ _ _ hr (by omega)).mono ?_; rintro e w' ⟨A1, c1, rfl, rfl, hr1, _⟩)
      go_ret
      exact gives_trim E.out.2.1 E.out.2.2 hr1 (hb.setCell (Nat.le_refl _) _)
theorem add_calls_gt (A B : Option Addr) (n m c d : Nat) (xs ys : List Nat) (w : World) (h : Rd w A n c xs) (h2 : Rd w B m d ys) (hn : n ≤ 1048576) (hmn : m < n) :
    Calls Try.prog 46 #[.slice B m d, .slice A n c] w (Gives w (dg (val xs + val ys))) := by
  have hmk := fun W => run_mk 23 (.inr rfl) (n + 1) ((n : Int) + 1) (by omega) (by omega) W
  have hd : decide (m < n) = true := by simp; omega
  go_enter Try.func46, Try.ntmps46
  go_wp2
  go_loopw [6, 22] (fun cy i wr => ∃ (k cc : Nat) (S : List Nat), k ≤ n ∧ i = .int .i64 k ∧ cy = .int .u64 cc ∧ cc ≤ 1 ∧ Below w.heap.size w wr ∧ Blk wr w.heap.size (arr S) ∧ Hid (S.length = n + 1 ∧ Sm S ∧ pv S k + pw k * cc = pv xs k + pv ys k)) (fun _ i _ => n - (intOf i).toNat)
  case atStart =>
    exact ⟨0, 0, zs (n + 1), by omega, rfl, rfl, by omega, (Below.refl _ _).alloc (Nat.le_refl _) _, Blk.new _ _, zs_len _, zs_sm _, by rw [zs_pv, pv_zero, pv_zero, Nat.mul_zero]⟩
  case round =>
    obtain ⟨k, cc, S, hk, rfl, rfl, hcc, hb, hbl, HI⟩ := hrel
    have hx := h.sm.lim k
    have hy := h2.sm.lim k
    have hbc : wr.cell? ⟨w.heap.size, k, none⟩ = some (.int .u32 (lim S k : Nat)) := blk_cell hbl (by have := HI.out.1; omega)
    have hbf := hbl.frozen k
    by_cases hkn : k < n
    · obtain ⟨b, off, hA, _, hc⟩ := (h.below hb).get hkn
      subst hA
      have hr2 := h2.below hb
      go_wp2_with (go_at_call 59; refine (limb_calls B m d ys _ k hr2).mono ?_; rintro e w' ⟨rfl, rfl⟩)
      go_roundw
      case rel =>
        refine ⟨k + 1, _, _, by omega, by go_num, congrArg _ ?_, ?_, hb.setCell (Nat.le_refl _) _, ?_, add_step hkn hcc hx hy HI.out⟩
        · omega
        · omega
        · have := blk_set hbl k ((cc + (lim xs k + lim ys k)) % 4294967296)
          rwa [show (((cc + (lim xs k + lim ys k)) % 4294967296 : Nat) : Int) = ((cc : Int) + ((lim xs k : Int) + (lim ys k : Int))) % 4294967296 from by omega] at this
      case measure => simp [intOf]; omega
    · obtain rfl : n = k := by omega
      obtain ⟨e1, e2, e3⟩ := add_end hcc (by rw [h.len]; omega) (by rw [h2.len]; omega) HI.out
      have hbl2 := blk_set hbl n cc
      have hr := blk_rd0 (c := n + 1) hbl2 e2 e1 (by omega)
      have E := hide (And.intro e1 (And.intro e2 e3))
      clear e1 e2 e3
      go_wp2_with (go_at_call 56; refine (trim_calls _ _ _ _ _ hr (by omega)).mono ?_; rintro e w' ⟨A1, c1, rfl, rfl, hr1, _⟩)
      go_ret
      exact gives_trim E.out.2.1 E.out.2.2 hr1 (hb.setCell (Nat.le_refl _) _)

theorem add_calls (A B : Option Addr) (n m c d : Nat) (xs ys : List Nat) (w : World) (h : Rd w A n c xs) (h2 : Rd w B m d ys) (hn : n ≤ 1048576) (hm : m ≤ 1048576) :
    Calls Try.prog 46 #[.slice A n c, .slice B m d] w (Gives w (dg (val xs + val ys))) := by
  rcases Nat.lt_or_ge n m with hl | hl
  · rw [Nat.add_comm]
    exact add_calls_gt B A m n d c ys xs w h2 h hm hl
  · exact add_calls_le A B n m c d xs ys w h h2 hn hl
end Go.Proofs.Ytefcpcekoihgjaa
