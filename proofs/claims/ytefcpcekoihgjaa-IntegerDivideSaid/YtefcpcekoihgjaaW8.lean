/-
  Uint, Bits and their specifications.
-/
import Derived.Test.YtefcpcekoihgjaaW7
namespace Go.Proofs.Ytefcpcekoihgjaa
open Go.RowKit
set_option linter.unusedVariables false
set_option linter.unusedSimpArgs false

theorem low_at (A : Option Addr) (n c : Nat) (xs : List Nat) (w : World) (v : Nat) (hv : lim xs 0 + 4294967296 * lim xs 1 = v) (h : Rd w A n c xs) :
    Calls Try.prog 58 #[.slice A n c] w fun e w' => e = .returned (.int .u64 (v : Nat)) ∧ w = w' := by
  subst hv
  exact low_calls A n c xs w h
theorem Rd.get0 {w : World} {A : Option Addr} {n c : Nat} {xs : List Nat} (h : Rd w A n c xs) (hk : 0 < n) : ∃ b off, A = some ⟨b, off, none⟩ ∧ b < w.heap.size ∧ w.cell? ⟨b, off, none⟩ = some (.int .u32 (lim xs 0 : Nat)) := by
  obtain ⟨b, off, hA, hb, hc⟩ := h.get hk
  exact ⟨b, off, hA, hb, hc⟩
theorem Rd.get01 {w : World} {A : Option Addr} {n c : Nat} {xs : List Nat} (h : Rd w A n c xs) (hk : 1 < n) : ∃ b off, A = some ⟨b, off, none⟩ ∧ b < w.heap.size ∧ w.cell? ⟨b, off, none⟩ = some (.int .u32 (lim xs 0 : Nat)) ∧
    w.cell? ⟨b, off + 1, none⟩ = some (.int .u32 (lim xs 1 : Nat)) := by
  obtain ⟨b, off, hA, hb, hc⟩ := h.at_ (by omega)
  exact ⟨b, off, hA, hb, hc 0 (by omega), hc 1 hk⟩
theorem val_two {xs : List Nat} (h : xs.length ≤ 2) : lim xs 0 + 4294967296 * lim xs 1 = val xs := by
  match xs, h with
  | [], _ => rfl
  | [x], _ => rfl
  | [x, y], _ => rfl
  | _ :: _ :: _ :: _, h => simp at h
/-- A number that fits in 64 bits, and whether it does. -/
def u64Of (xs : List Nat) : Nat × Bool := if tlen xs ≤ 2 then (val xs, true) else (0, false)
theorem uint_calls (A : Option Addr) (n c : Nat) (xs : List Nat) (w : World) (v : Nat) (b : Bool) (hvb : u64Of xs = (v, b)) (h : Rd w A n c xs) (hn : n ≤ 1048576) :
    Calls Try.prog 42 #[.slice A n c] w fun e w' => e = .returned (.tuple #[.int .u64 (v : Int), .bool b]) ∧ w = w' := by
  have hn4 : n ≤ 4194304 := by omega
  unfold u64Of at hvb
  by_cases ht : tlen xs ≤ 2
  · rw [if_pos ht] at hvb
    injection hvb with h1 h2
    have hv : lim (xs.take (tlen xs)) 0 + 4294967296 * lim (xs.take (tlen xs)) 1 = v := by rw [val_two (by rw [List.length_take]; omega), val_trim h.sm, h1]
    subst h2
    have HV := hide hv
    clear hv h1
    go_enter Try.func42, Try.ntmps42
    go_wp2_with (first
      | (go_at_call 56; (with_reducible refine (trim_calls A n c xs _ h hn4).mono ?_); rintro e w' ⟨A1, c1, rfl, rfl, hr1, _⟩)
      | (go_at_call 58; refine (low_at _ _ _ _ _ v HV.out hr1).mono ?_; rintro e w' ⟨rfl, rfl⟩))
    go_ret2
    exact ⟨rfl, rfl⟩
  · rw [if_neg ht] at hvb
    injection hvb with h1 h2
    subst h1 h2
    go_enter Try.func42, Try.ntmps42
    go_wp2_with (go_at_call 56; (with_reducible refine (trim_calls A n c xs _ h hn4).mono ?_); rintro e w' ⟨A1, c1, rfl, rfl, hr1, _⟩)
    go_ret2
    exact ⟨rfl, rfl⟩
theorem ruint_calls (A : Option Addr) (n c : Nat) (xs : List Nat) (w : World) (v : Nat) (b : Bool) (hvb : u64Of xs = (v, b)) (h : Rd w A n c xs) (hn : n ≤ 1048576) :
    Calls Try.prog 44 #[.slice A n c] w fun e w' => e = .returned (.tuple #[.int .u64 (v : Int), .bool b]) ∧ Below w.heap.size w w' := by
  have hn4 : n ≤ 4194304 := by omega
  have hlen := len_dg_val h.sm
  have hval := val_dg (val xs)
  obtain ⟨L, hL⟩ : ∃ L, L = (dg (val xs)).length := ⟨_, rfl⟩
  unfold u64Of at hvb
  rw [← hlen, ← hL] at hvb
  have HL := hide hL
  clear hlen hval hL
  by_cases ht : L ≤ 2
  · rw [if_pos ht] at hvb
    injection hvb with h1 h2
    have hv : lim (dg (val xs)) 0 + 4294967296 * lim (dg (val xs)) 1 = v := by rw [val_two (by rw [← HL.out]; exact ht), val_dg, h1]
    subst h2
    have HV := hide hv
    clear hv h1
    have hmk : Calls Try.prog 38 #[.slice A n c] w fun e w' => ∃ A1 c1, e = .returned (.slice A1 L c1) ∧ Rd w' A1 L c1 (dg (val xs)) ∧ Below w.heap.size w w' := by
      rw [HL.out]; exact rmake_calls A n c xs w h hn4
    have HM := hide hmk
    clear hmk
    have hs0 := (sm_dg (val xs)).lim 0
    have hs1 := (sm_dg (val xs)).lim 1
    match L, ht with
    | 0, _ =>
      have hl1 : lim (dg (val xs)) 0 = 0 := lim_of_ge (by rw [← HL.out]; omega)
      have hl2 : lim (dg (val xs)) 1 = 0 := lim_of_ge (by rw [← HL.out]; omega)
      have hv0 : v = 0 := by have := HV.out; omega
      subst hv0
      clear hl1 hl2
      go_enter Try.func44, Try.ntmps44
      go_wp2_with (go_at_call 38; refine (unhide HM).mono ?_; rintro e w' ⟨A1, c1, rfl, hr1, hb1⟩)
      go_ret2
      exact ⟨rfl, hb1⟩
    | 1, _ =>
      have hl2 : lim (dg (val xs)) 1 = 0 := lim_of_ge (by rw [← HL.out]; omega)
      have hv0 : v = lim (dg (val xs)) 0 := by have := HV.out; omega
      subst hv0
      clear hl2
      go_enter Try.func44, Try.ntmps44
      go_wp2_with (go_at_call 38; refine (unhide HM).mono ?_; rintro e w' ⟨A1, c1, rfl, hr1, hb1⟩; obtain ⟨b0, off, rfl, _, hc0⟩ := hr1.get0 (by omega))
      go_ret2
      exact ⟨rfl, hb1⟩
    | 2, _ =>
      go_enter Try.func44, Try.ntmps44
      go_wp2_with (go_at_call 38; refine (unhide HM).mono ?_; rintro e w' ⟨A1, c1, rfl, hr1, hb1⟩; obtain ⟨b0, off, rfl, _, hca, hcb⟩ := hr1.get01 (by omega))
      go_quiet (fail)
      go_wp2
      go_ret2
      refine ⟨?_, below_drewN hb1 _⟩
      show Ending.returned (.tuple #[.int .u64 (bits .or .u64 ((lim (dg (val xs)) 0 : Nat) : Int) (((lim (dg (val xs)) 1 : Nat) : Int) * 4294967296)), .bool true]) = _
      rw [or_hi hs0 hs1, HV.out]
  · rw [if_neg ht] at hvb
    injection hvb with h1 h2
    subst h1 h2
    have hmk : Calls Try.prog 38 #[.slice A n c] w fun e w' => ∃ A1 c1, e = .returned (.slice A1 L c1) ∧ Rd w' A1 L c1 (dg (val xs)) ∧ Below w.heap.size w w' := by
      rw [HL.out]; exact rmake_calls A n c xs w h hn4
    have HM := hide hmk
    clear hmk
    have e0 : ((L : Int) == 0) = false := by simp; omega
    have e1 : ((L : Int) == 1) = false := by simp; omega
    have e2 : ((L : Int) == 2) = false := by simp; omega
    go_enter Try.func44, Try.ntmps44
    go_wp2_with (go_at_call 38; refine (unhide HM).mono ?_; rintro e w' ⟨A1, c1, rfl, hr1, hb1⟩)
    go_ret2
    exact ⟨rfl, hb1⟩

/-- How many bits a number has. -/
def nb (xs : List Nat) : Nat := if tlen xs = 0 then 0 else 32 * (tlen xs - 1) + Lib.bitLen (lim xs (tlen xs - 1))
theorem bits_calls (A : Option Addr) (n c : Nat) (xs : List Nat) (w : World) (r : Nat) (hr : nb xs = r) (h : Rd w A n c xs) (hn : n ≤ 1048576) :
    Calls Try.prog 41 #[.slice A n c] w fun e w' => e = .returned (.int .i64 (r : Int)) ∧ w = w' := by
  have hn4 : n ≤ 4194304 := by omega
  unfold nb at hr
  by_cases h0 : tlen xs = 0
  · rw [if_pos h0] at hr
    subst hr
    have e0 : (((tlen xs : Nat) : Int) == 0) = true := by simp; omega
    have H0 := hide h0
    clear h0
    go_enter Try.func41, Try.ntmps41
    go_wp2_with (go_at_call 56; (with_reducible refine (trim_calls A n c xs _ h hn4).mono ?_); rintro e w' ⟨A1, c1, rfl, rfl, hr1, _⟩)
    go_ret
    exact ⟨rfl, rfl⟩
  · rw [if_neg h0] at hr
    have e0 : (((tlen xs : Nat) : Int) == 0) = false := by simp; omega
    have ht : tlen xs ≤ 1048576 := by have := tlen_le xs; have := h.len; omega
    have ht0 : 0 < tlen xs := by omega
    have hs := h.sm.lim (tlen xs - 1)
    have hle : Lib.bitLen (lim xs (tlen xs - 1)) ≤ 32 := Lib.bitLen_le _ 32 (by omega) (by omega)
    obtain ⟨q, hq⟩ : ∃ q, q = Lib.bitLen (lim xs (tlen xs - 1)) := ⟨_, rfl⟩
    rw [← hq] at hle hr
    have hcall : ∀ W, Calls Try.prog 57 #[.int .u32 ((lim xs (tlen xs - 1) : Nat) : Int)] W fun e w' => e = .returned (.int .i64 (q : Int)) ∧ w' = W := by
      intro W
      have := Try.bits_Len32 ((lim xs (tlen xs - 1) : Nat) : Int) W (by omega) (by omega)
      rw [Int.toNat_natCast, ← hq] at this
      exact this
    have HC := hide hcall
    have HR := hide hr
    clear hcall hr hq h0
    go_enter Try.func41, Try.ntmps41
    go_wp2_with (first
      | (go_at_call 56; (with_reducible refine (trim_calls A n c xs _ h hn4).mono ?_); rintro e w' ⟨A1, c1, rfl, rfl, hr1, -⟩; obtain ⟨b0, off, rfl, -, hc0⟩ := hr1.get (k := tlen xs - 1) (by omega); rw [lim_take (by omega)] at hc0)
      | (go_at_call 57; refine ((unhide HC) _).mono ?_; rintro e w' ⟨rfl, rfl⟩))
    go_ret
    exact ⟨ret_int (by rw [← HR.out]; omega), rfl⟩
end Go.Proofs.Ytefcpcekoihgjaa
