/-
  The specification's shr, Shl, Shr.
-/
import Derived.Test.YtllbncipadjjgaaW23
namespace Go.Proofs.Ytllbncipadjjgaa
open Go.RowKit
set_option linter.unusedVariables false
set_option linter.unusedSimpArgs false

def RhrInv (L xs : List Nat) (k j : Nat) : Prop := L.length = j ∧ Sm L ∧ val L = val (xs.drop (k / 32)) / 2 ^ (k % 32) % pw j
theorem rhr_step {L xs : List Nat} {k i j v : Nat} (hs : Sm xs) (hi : i = k / 32 + j) (hv : v = (lim xs i + 4294967296 * lim xs (i + 1)) / 2 ^ (k % 32) % 4294967296) (h : RhrInv L xs k j) : RhrInv (L ++ [v]) xs k (j + 1) := by
  obtain ⟨h1, h2, h3⟩ := h
  refine ⟨by simp [h1], h2.snoc (by omega), ?_⟩
  have hw := shr_word (ys := xs.drop (k / 32)) (s := k % 32) (Nat.mod_lt k (by omega)) (hs.drop _) j
  rw [lim_drop, lim_drop, ← Nat.add_assoc, ← hi, ← hv] at hw
  rw [val_snoc, h1, h3, ← hw, pw, Nat.mul_comm 4294967296, Nat.mod_mul]
theorem rhr_end {L xs : List Nat} {k n j : Nat} (hs : Sm xs) (hn : xs.length = n) (hj : n ≤ k / 32 + j) (h : RhrInv L xs k j) : val L = val xs / 2 ^ k := by
  obtain ⟨h1, h2, h3⟩ := h
  rw [h3, Nat.mod_eq_of_lt, shr_whole hs]
  have hl := val_lt (hs.drop (k / 32))
  exact Nat.lt_of_le_of_lt (Nat.div_le_self _ _) (Nat.lt_of_lt_of_le hl (pw_mono (by rw [List.length_drop]; omega)))
set_option maxHeartbeats 1000000 in
theorem rshr_calls (A : Option Addr) (n c : Nat) (xs : List Nat) (w : World) (k : Nat) (h : Rd w A n c xs) (hn : n ≤ 1048576) (hk : k ≤ 1048576) :
    Calls Try.prog 51 #[.slice A n c, .int .i64 (k : Int)] w (Gives w (dg (val xs / 2 ^ k))) := by
  have HL := hide h.len
  go_enter Try.func51, Try.ntmps51
  go_wp2
  go_loopw [5, 6] (fun o ii wr => ∃ (i j : Nat) (A1 : Option Addr) (c1 : Nat) (L : List Nat), i ≤ 2097152 ∧ j ≤ 1048576 ∧ ii = .int .i64 i ∧ o = .slice A1 j c1 ∧ Own wr w.heap.size A1 j c1 L ∧ Below w.heap.size w wr ∧ Hid (i = k / 32 + j ∧ RhrInv L xs k j)) (fun _ ii _ => n - (intOf ii).toNat)
  case atStart =>
    exact ⟨k / 32, 0, none, 0, [], by omega, by omega, congrArg _ (by omega), rfl, Own.nil _ _, Below.refl _ _, rfl, rfl, Sm.nil, by rw [pw, Nat.mod_one]; rfl⟩
  case round =>
    obtain ⟨i, j, A1, c1, L, hib, hjb, rfl, rfl, hown, hb, HI⟩ := hrel
    have hbs := hb.size
    by_cases hin : i < n
    · have hjn : j + 1 ≤ 1048576 := by have := HI.out.1; omega
      have hl1 := h.sm.lim i
      have hl2 := h.sm.lim (i + 1)
      have hz := or_hi hl1 hl2
      obtain ⟨z, hzz⟩ : ∃ z, z = lim xs i + 4294967296 * lim xs (i + 1) := ⟨_, rfl⟩
      rw [← hzz] at hz
      obtain ⟨v, hv⟩ : ∃ v, v = z / 2 ^ (k % 32) % 4294967296 := ⟨_, rfl⟩
      have hv1 : (z : Int) / 2 ^ (k % 32) % 4294967296 = (v : Int) := by rw [hv]; simp
      have hv2 : v < 4294967296 := by omega
      have HS := hide (And.intro (show i + 1 = k / 32 + (j + 1) by have := HI.out.1; omega) (rhr_step (v := v) h.sm HI.out.1 (by rw [hv, hzz]) HI.out.2))
      have HJ := hide (show ((i : Int) + 1) = ((i + 1 : Nat) : Int) by omega)
      have hr2 := h.below hb
      clear hv hzz
      have HH := hide h
      obtain ⟨b1, o1, hA, -, hc1⟩ := hr2.get (k := i) hin
      subst hA
      go_wp2
      go_quiet ((go_at_call 46; exact quiet_left (rlimb_int _ n c _ _ _ (i + 1) HJ.out (hr2.below (below_drewN (Below.refl _ _) _)))))
      go_wp2_with (at_builtin; refine wpList_app rfl (.tmp 28) (.tmp 34) 22 22 rfl (.inl rfl) (.inl rfl) w.heap.size A1 j c1 L rfl ((hown.drewN _).alloc _) _ 1 1 [v] rfl (rd_one _ v hv2) (by omega) (by simp; omega) ?_; intro A' c' w' hown' hb')
      go_roundw
      case rel => exact ⟨i + 1, j + 1, A', c', L ++ [v], by omega, hjn, by go_num, rfl, hown', ((below_drewN hb _).alloc hbs _).trans hb', HS⟩
      case measure => simp [intOf]; omega
    · have HE := hide (rhr_end h.sm HL.out (by have := HI.out.1; omega) HI.out.2)
      have hs1 := HI.out.2.2.1
      go_wp2_with (go_at_call 18; refine (rmake_at _ _ _ _ _ _ HE.out (hown.rd hs1) (by omega)).mono ?_; rintro e w2 ⟨A2, c2, rfl, hr, hb3⟩)
      go_ret
      exact ⟨A2, c2, rfl, hr, below_then hb (Nat.le_refl _) hb3⟩

theorem rshl_bad (A : Option Addr) (n c : Nat) (w : World) (k : Int) (hk : k < 0 ∨ 1048576 < k) :
    Calls Try.prog 36 #[.slice A n c, .int .i64 k] w (GivesE w [] 2) := by
  by_cases h0 : k < 0
  · clear hk
    go_enter Try.func36, Try.ntmps36
    go_wp2
    go_ret2
    exact ⟨none, 0, rfl, Rd.empty _ _ _, Below.refl _ _⟩
  · have h1 : 1048576 < k := by omega
    have hd : decide (k < 0) = false := by simp; omega
    clear hk
    go_enter Try.func36, Try.ntmps36
    go_wp2
    go_ret2
    exact ⟨none, 0, rfl, Rd.empty _ _ _, Below.refl _ _⟩
theorem rshr_bad (A : Option Addr) (n c : Nat) (w : World) (k : Int) (hk : k < 0 ∨ 1048576 < k) :
    Calls Try.prog 37 #[.slice A n c, .int .i64 k] w (GivesE w [] 2) := by
  by_cases h0 : k < 0
  · clear hk
    go_enter Try.func37, Try.ntmps37
    go_wp2
    go_ret2
    exact ⟨none, 0, rfl, Rd.empty _ _ _, Below.refl _ _⟩
  · have h1 : 1048576 < k := by omega
    have hd : decide (k < 0) = false := by simp; omega
    clear hk
    go_enter Try.func37, Try.ntmps37
    go_wp2
    go_ret2
    exact ⟨none, 0, rfl, Rd.empty _ _ _, Below.refl _ _⟩
theorem rShl_ok (A : Option Addr) (n c : Nat) (xs : List Nat) (w : World) (k : Nat) (h : Rd w A n c xs) (hn : n ≤ 1048576) (hk : k ≤ 1048576) :
    Calls Try.prog 36 #[.slice A n c, .int .i64 (k : Int)] w (GivesE w (dg (val xs * 2 ^ k)) 0) := by
  have hd1 : decide ((k : Int) < 0) = false := by simp
  have hd2 : decide ((1048576 : Int) < (k : Int)) = false := by simp; omega
  go_enter Try.func36, Try.ntmps36
  go_wp2_with (go_at_call 50; refine (rshl_calls A n c xs _ k h hn hk).mono ?_; rintro e w' ⟨A1, c1, rfl, hr, hb⟩)
  go_ret2
  exact ⟨A1, c1, rfl, hr, hb⟩
theorem rShr_ok (A : Option Addr) (n c : Nat) (xs : List Nat) (w : World) (k : Nat) (h : Rd w A n c xs) (hn : n ≤ 1048576) (hk : k ≤ 1048576) :
    Calls Try.prog 37 #[.slice A n c, .int .i64 (k : Int)] w (GivesE w (dg (val xs / 2 ^ k)) 0) := by
  have hd1 : decide ((k : Int) < 0) = false := by simp
  have hd2 : decide ((1048576 : Int) < (k : Int)) = false := by simp; omega
  go_enter Try.func37, Try.ntmps37
  go_wp2_with (go_at_call 51; refine (rshr_calls A n c xs _ k h hn hk).mono ?_; rintro e w' ⟨A1, c1, rfl, hr, hb⟩)
  go_ret2
  exact ⟨A1, c1, rfl, hr, hb⟩
end Go.Proofs.Ytllbncipadjjgaa
