/-
  Shifts.
-/
import Derived.Test.YtefcpcekoihgjaaW7
import Derived.Test.YtefcpcekoihgjaaN3
namespace Go.Proofs.Ytefcpcekoihgjaa
open Go.RowKit
set_option linter.unusedVariables false
set_option linter.unusedSimpArgs false

theorem shiftLeft_calls (A : Option Addr) (n c : Nat) (xs : List Nat) (w : World) (k : Nat) (h : Rd w A n c xs) (hn : n ≤ 1048576) (hk : k ≤ 1048576) :
    Calls Try.prog 67 #[.slice A n c, .int .i64 (k : Int)] w fun e w' => ∃ S : List Nat, e = .returned (.slice (some ⟨w.heap.size, 0, none⟩) (k / 32 + n + 1) (k / 32 + n + 1)) ∧ Blk w' w.heap.size (arr S) ∧ S.length = k / 32 + n + 1 ∧ Sm S ∧ val S = val xs * 2 ^ k ∧ Below w.heap.size w w' := by
  have hmk := fun W => run_mk 23 (.inr rfl) (k / 32 + n + 1) ((k : Int) / 32 + (n : Int) + 1) (by omega) (by omega) W
  go_enter Try.func67, Try.ntmps67
  go_wp2
  go_loopw [23] (fun i wr => ∃ (j : Nat) (S : List Nat), j ≤ n ∧ i = .int .i64 j ∧ Below w.heap.size w wr ∧ Blk wr w.heap.size (arr S) ∧ Hid (ShInv S xs (k / 32) (k % 32) n j)) (fun i _ => n - (intOf i).toNat)
  case atStart => exact ⟨0, _, by omega, rfl, (Below.refl _ _).alloc (Nat.le_refl _) _, Blk.new _ _, sh_start _ _ _ _⟩
  case round =>
    obtain ⟨j, S, hj, rfl, hb, hbl, HI⟩ := hrel
    by_cases hjn : j < n
    · have hx := h.sm.lim j
      have hl := HI.out.1
      have hc1 : wr.cell? ⟨w.heap.size, k / 32 + j, none⟩ = some (.int .u32 (lim S (k / 32 + j) : Nat)) := blk_cell hbl (by omega)
      have hf1 := hbl.frozen (k / 32 + j)
      obtain ⟨w1, w2, w3, w4⟩ := sh_word (Nat.mod_lt k (by omega)) hx HI.out.2.2.2.1
      have hs31 : 2 ^ (k % 32) ≤ 4294967296 := by rw [← pow32 (s := k % 32) (by omega)]; exact Nat.le_mul_of_pos_right _ (Nat.two_pow_pos _)
      have hstep := sh_step (Nat.mod_lt k (by omega)) hjn hx HI.out
      have hh := HI.out.2.1.lim (k / 32 + j)
      obtain ⟨wd, hwd⟩ : ∃ wd, wd = lim xs j * 2 ^ (k % 32) := ⟨_, rfl⟩
      rw [← hwd] at w1 w2 w3 w4 hstep
      have hwd1 : IntKind.u64.wrap ((lim xs j : Int) * 2 ^ (k % 32)) = (wd : Int) := by
        rw [hwd, IntWalk.u64_in]
        · simp
        · have : ((lim xs j * 2 ^ (k % 32) : Nat) : Int) = (lim xs j : Int) * 2 ^ (k % 32) := by simp
          omega
      obtain ⟨v, hv⟩ : ∃ v, v = lim S (k / 32 + j) + wd % 4294967296 := ⟨_, rfl⟩
      have hor : bits .or .u32 (lim S (k / 32 + j) : Int) ((wd : Int) % 4294967296) = (v : Int) := by
        have := u32_or_nat (lim S (k / 32 + j)) (wd % 4294967296) hh (by omega)
        rw [w2, ← hv] at this
        rw [← this]
        simp
      rw [← hv] at w3 hstep
      have hbl2 := blk_set hbl (k / 32 + j) v
      have hc2 : (wr.setCell ⟨w.heap.size, k / 32 + j, none⟩ (.int .u32 (v : Int))).cell? ⟨w.heap.size, k / 32 + (j + 1), none⟩ = some (.int .u32 (lim (S.set (k / 32 + j) v) (k / 32 + (j + 1)) : Nat)) := blk_cell hbl2 (by rw [List.length_set]; omega)
      have hf2 := hbl2.frozen (k / 32 + (j + 1))
      have hbl3 := blk_set hbl2 (k / 32 + (j + 1)) (wd / 4294967296)
      have hw4 : wd / 4294967296 < 4294967296 := by omega
      have HS := hide (And.intro hstep hbl3)
      clear hstep hbl3 hwd hv w2 w4 hl hs31 hbl2
      obtain ⟨b, off, hA, -, hc⟩ := (h.below hb).get hjn
      subst hA
      go_wp2
      go_roundw
      case rel =>
        exact ⟨j + 1, _, by omega, by go_num, (hb.setCell (Nat.le_refl _) _).setCell (Nat.le_refl _) _, HS.out.2, HS.out.1⟩
      case measure => simp [intOf]; omega
    · obtain rfl : n = j := by omega
      have HE := hide (sh_end h.len HI.out)
      go_wp2
      go_ret
      exact ⟨S, rfl, hbl, HI.out.1, HI.out.2.1, HE.out, hb⟩
end Go.Proofs.Ytefcpcekoihgjaa
