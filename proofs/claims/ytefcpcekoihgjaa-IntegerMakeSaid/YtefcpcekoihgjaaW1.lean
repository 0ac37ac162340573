/-
  The limbs and the trimming.
-/
import Derived.Test.YtefcpcekoihgjaaProg
import Derived.Test.YtefcpcekoihgjaaMem
import Derived.BigQuiet
import Derived.Deep.QuietTactic
namespace Go.Proofs.Ytefcpcekoihgjaa
open Go.RowKit
set_option linter.unusedVariables false
set_option linter.unusedSimpArgs false

theorem ret_int {k : IntKind} {a b : Int} (h : a = b) : Ending.returned (.int k a) = .returned (.int k b) := by rw [h]

theorem limb_calls (A : Option Addr) (n c : Nat) (xs : List Nat) (w : World) (i : Nat) (h : Rd w A n c xs) :
    Calls Try.prog 59 #[.slice A n c, .int .i64 (i : Int)] w fun e w' => e = .returned (.int .u64 (lim xs i : Nat)) ∧ w = w' := by
  have hl := h.sm.lim i
  by_cases hk : i < n
  · obtain ⟨b, off, rfl, hb, hc⟩ := h.get hk
    clear h
    go_enter Try.func59, Try.ntmps59
    go_wp2
    go_ret
    exact ⟨rfl, rfl⟩
  · have hz : lim xs i = 0 := lim_of_ge (by have := h.len; omega)
    rw [hz]
    clear h hz hl
    go_enter Try.func59, Try.ntmps59
    go_wp2
    go_ret
    exact ⟨rfl, rfl⟩
theorem rlimb_calls (A : Option Addr) (n c : Nat) (xs : List Nat) (w : World) (i : Nat) (h : Rd w A n c xs) :
    Calls Try.prog 55 #[.slice A n c, .int .i64 (i : Int)] w fun e w' => e = .returned (.int .u32 (lim xs i : Nat)) ∧ w = w' := by
  have hl := h.sm.lim i
  by_cases hk : i < n
  · obtain ⟨b, off, rfl, hb, hc⟩ := h.get hk
    clear h
    go_enter Try.func55, Try.ntmps55
    go_wp2
    go_ret
    exact ⟨rfl, rfl⟩
  · have hz : lim xs i = 0 := lim_of_ge (by have := h.len; omega)
    rw [hz]
    clear h hz hl
    go_enter Try.func55, Try.ntmps55
    go_wp2
    go_ret
    exact ⟨rfl, rfl⟩

theorem trim_calls (A : Option Addr) (n c : Nat) (xs : List Nat) (w : World) (h : Rd w A n c xs) (hn : n ≤ 4194304) :
    Calls Try.prog 56 #[.slice A n c] w fun e w' => ∃ A' c', e = .returned (.slice A' (tlen xs) c') ∧ w = w' ∧ Rd w A' (tlen xs) c' (xs.take (tlen xs)) ∧ (0 < tlen xs → A' = A) := by
  have hcap := h.cap
  have hlen := h.len
  have HL := hide hlen
  clear hlen
  go_enter Try.func56, Try.ntmps56
  go_wp2
  go_loop [3] (fun k => ∃ j : Nat, j ≤ n ∧ k = .int .i64 j ∧ Hid (∀ i, j ≤ i → lim xs i = 0)) (fun k => (intOf k).toNat)
  case atStart => exact ⟨n, Nat.le_refl _, rfl, fun i hi => lim_of_ge (by have := HL.out; omega)⟩
  case round =>
    obtain ⟨j, hj, rfl, hz⟩ := hrel
    by_cases h0 : j = 0
    · have hd : decide ((0 : Int) < (j : Int)) = false := by simp; omega
      have hd1 : ((j : Int) == 0) = true := by simp; omega
      have hd2 : ¬ (0 : Int) < (j : Int) := by omega
      have H0 := hide h0
      clear h0
      go_wp2
      go_ret
      have h0 := H0.out
      subst h0
      have ht : tlen xs = 0 := tlen_of (fun k hk => hz.out k hk) (.inl rfl)
      exact ⟨none, 0, by rw [ht]; rfl, rfl, by rw [ht]; exact Rd.empty _ _ _, fun h1 => absurd h1 (by omega)⟩
    · have hl := h.sm.lim (j - 1)
      obtain ⟨b, off, rfl, hb, hc⟩ := h.get (k := j - 1) (by omega)
      have hd : (0 : Int) < j := by omega
      go_wp2
      · have ht : ((lim xs (j - 1) : Int) == 0) = true := by assumption
        go_round
        case rel =>
          refine ⟨j - 1, by omega, by go_num, fun i hi => ?_⟩
          by_cases he : i = j - 1
          · subst he; have := WalkArith.int_eq ht; omega
          · exact hz.out i (by omega)
        case measure => simp [intOf]; omega
      · have ht : ((lim xs (j - 1) : Int) == 0) = false := by assumption
        have hj0 : tlen xs = j := tlen_of (fun k hk => hz.out k hk) (.inr (by have := WalkArith.int_ne ht; omega))
        go_ret
        exact ⟨_, c, by rw [hj0]; rfl, rfl, by rw [hj0]; exact h.take hj, fun _ => rfl⟩
end Go.Proofs.Ytefcpcekoihgjaa
