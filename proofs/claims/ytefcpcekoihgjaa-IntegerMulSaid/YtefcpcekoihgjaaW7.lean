/-
  Of, Valid, low, Uint, Bits and their specifications.
-/
import Derived.Test.YtefcpcekoihgjaaW4
import Derived.Laws.BitsAllLaws
namespace Go.Proofs.Ytefcpcekoihgjaa
open Go.RowKit
set_option linter.unusedVariables false
set_option linter.unusedSimpArgs false

theorem or_nat {a b : Nat} (ha : a < 4294967296) : a ||| b * 4294967296 = a + 4294967296 * b := by
  have := Nat.two_pow_add_eq_or_of_lt (i := 32) (b := a) (by simpa using ha) b
  rw [Nat.or_comm, Nat.mul_comm b]
  simp at this
  omega
theorem or_hi {a b : Nat} (ha : a < 4294967296) (hb : b < 4294967296) : bits .or .u64 (a : Int) ((b : Int) * 4294967296) = ((a + 4294967296 * b : Nat) : Int) := by
  have h := u64_or_nat a (b * 4294967296) (by omega) (by omega)
  rw [or_nat ha] at h
  rw [← h]
  simp
theorem or_lo {a b : Nat} (ha : a < 4294967296) (hb : b < 4294967296) : bits .or .u64 ((b : Int) * 4294967296) (a : Int) = ((a + 4294967296 * b : Nat) : Int) := by
  have h := u64_or_nat (b * 4294967296) a (by omega) (by omega)
  rw [Nat.or_comm, or_nat ha] at h
  rw [← h]
  simp
theorem rmake_at (A : Option Addr) (n c : Nat) (xs : List Nat) (w : World) (N : Nat) (hv : val xs = N) (h : Rd w A n c xs) (hn : n ≤ 4194304) :
    Calls Try.prog 38 #[.slice A n c] w (Gives w (dg N)) := by
  subst hv
  exact rmake_calls A n c xs w h hn
theorem below_then {B : Nat} {w w1 w2 : World} (h : Below B w w1) (hB : B ≤ w.heap.size) (h2 : Below w1.heap.size w1 w2) : Below B w w2 := h.trans (h2.mono (Nat.le_trans hB h.size))
theorem limb_int (A : Option Addr) (n c : Nat) (xs : List Nat) (w : World) (i : Int) (k : Nat) (hi : i = (k : Int)) (h : Rd w A n c xs) :
    Calls Try.prog 59 #[.slice A n c, .int .i64 i] w fun e w' => e = .returned (.int .u64 (lim xs k : Nat)) ∧ w = w' := by
  subst hi
  exact limb_calls A n c xs w k h

theorem low_calls (A : Option Addr) (n c : Nat) (xs : List Nat) (w : World) (h : Rd w A n c xs) :
    Calls Try.prog 58 #[.slice A n c] w fun e w' => e = .returned (.int .u64 (lim xs 0 + 4294967296 * lim xs 1 : Nat)) ∧ w = w' := by
  have h0 := h.sm.lim 0
  have h1 := h.sm.lim 1
  go_enter Try.func58, Try.ntmps58
  go_wp2_with (first
    | (go_at_call 59; (with_reducible refine (limb_int A n c xs _ 0 0 rfl h).mono ?_); rintro e w' ⟨rfl, rfl⟩)
    | (go_at_call 59; (with_reducible refine (limb_int A n c xs _ 1 1 rfl h).mono ?_); rintro e w' ⟨rfl, rfl⟩))
  go_ret
  exact ⟨ret_int (or_hi h0 h1), rfl⟩
theorem of_calls (x : Nat) (w : World) (hx : x ≤ 18446744073709551615) :
    Calls Try.prog 43 #[.int .u64 (x : Int)] w (Gives w (dg x)) := by
  have hsm : Sm [x % 4294967296, x / 4294967296] := (Sm.nil.cons (by omega)).cons (by omega)
  have hv : val [x % 4294967296, x / 4294967296] = x := by simp [val]; omega
  have hr := blk_rd0 (n := 2) (c := 2) (w := w.alloc (.cells #[.int .u32 ((x : Int) % 4294967296), .int .u32 ((x : Int) / 4294967296)] 57)) (g := w.heap.size) (xs := [x % 4294967296, x / 4294967296])
    (Blk.new w _) hsm rfl (Nat.le_refl _)
  have HV := hide hv
  clear hv
  go_enter Try.func43, Try.ntmps43
  go_wp2_with (go_at_call 56; refine (trim_calls _ _ _ _ _ hr (by omega)).mono ?_; rintro e w' ⟨A1, c1, rfl, rfl, hr3, _⟩)
  go_ret
  exact gives_trim hsm HV.out hr3 ((Below.refl _ _).alloc (Nat.le_refl _) _)
theorem rof_calls (x : Nat) (w : World) (hx : x ≤ 18446744073709551615) :
    Calls Try.prog 45 #[.int .u64 (x : Int)] w (Gives w (dg x)) := by
  have hsm : Sm [x % 4294967296, x / 4294967296] := (Sm.nil.cons (by omega)).cons (by omega)
  have hv : val [x % 4294967296, x / 4294967296] = x := by simp [val]; omega
  have hr := blk_rd0 (n := 2) (c := 2) (w := w.alloc (.cells #[.int .u32 ((x : Int) % 4294967296), .int .u32 ((x : Int) / 4294967296)] 57)) (g := w.heap.size) (xs := [x % 4294967296, x / 4294967296])
    (Blk.new w _) hsm rfl (Nat.le_refl _)
  have HV := hide hv
  clear hv
  go_enter Try.func45, Try.ntmps45
  go_wp2_with (go_at_call 38; refine (rmake_at _ _ _ _ _ x HV.out hr (by omega)).mono ?_; rintro e w' ⟨A1, c1, rfl, hr3, hb⟩)
  go_ret
  exact ⟨A1, c1, rfl, hr3, below_then ((Below.refl _ _).alloc (Nat.le_refl _) _) (Nat.le_refl _) hb⟩
theorem top_bool {xs : List Nat} {n : Nat} {b : Bool} (hl : xs.length = n) (hn : 0 < n) (hb : decide (tlen xs = n) = b) : ((lim xs (n - 1) : Int) != 0) = b := by
  rw [← hb]
  by_cases h : lim xs (n - 1) = 0
  · have : tlen xs ≠ n := fun e => by have := tlen_top (xs := xs) (by omega); rw [e] at this; exact this h
    simp [h, this]
  · have : tlen xs = n := tlen_of (fun j hj => lim_of_ge (by omega)) (.inr h)
    simp [this]; omega
theorem valid_calls (A : Option Addr) (n c : Nat) (xs : List Nat) (w : World) (h : Rd w A n c xs) (hn : n ≤ 1048576) (b : Bool) (hb : decide (tlen xs = n) = b) :
    Calls Try.prog 39 #[.slice A n c] w fun e w' => e = .returned (.bool b) ∧ w = w' := by
  by_cases h0 : n = 0
  · have hz : ((n : Int) == 0) = true := by simp; omega
    have e : b = true := by rw [← hb]; have := tlen_le xs; have := h.len; simp; omega
    subst e
    clear hb
    go_enter Try.func39, Try.ntmps39
    go_wp2
    go_ret
    exact ⟨rfl, rfl⟩
  · have hz : ((n : Int) == 0) = false := by simp; omega
    have hb' := top_bool h.len (by omega) hb
    obtain ⟨b0, off, rfl, _, hc⟩ := h.get (k := n - 1) (by omega)
    have hn1 : 0 < n := by omega
    clear hb
    go_enter Try.func39, Try.ntmps39
    go_wp2
    go_ret
    exact ⟨rfl, rfl⟩
theorem rvalid_calls (A : Option Addr) (n c : Nat) (xs : List Nat) (w : World) (h : Rd w A n c xs) (hn : n ≤ 1048576) (b : Bool) (hb : decide (tlen xs = n) = b) :
    Calls Try.prog 40 #[.slice A n c] w fun e w' => e = .returned (.bool b) ∧ w = w' := by
  by_cases h0 : n = 0
  · have hz : ((n : Int) == 0) = true := by simp; omega
    have e : b = true := by rw [← hb]; have := tlen_le xs; have := h.len; simp; omega
    subst e
    clear hb
    go_enter Try.func40, Try.ntmps40
    go_wp2
    go_ret
    exact ⟨rfl, rfl⟩
  · have hz : ((n : Int) == 0) = false := by simp; omega
    have hb' := top_bool h.len (by omega) hb
    obtain ⟨b0, off, rfl, _, hc⟩ := h.get (k := n - 1) (by omega)
    have hn1 : 0 < n := by omega
    clear hb
    go_enter Try.func40, Try.ntmps40
    go_wp2
    go_ret
    exact ⟨rfl, rfl⟩
end Go.Proofs.Ytefcpcekoihgjaa
