/-
  The specification's shifts.
-/
import Derived.Test.YtllbncipadjjgaaW21
import Derived.Test.YtllbncipadjjgaaW10
namespace Go.Proofs.Ytllbncipadjjgaa
open Go.RowKit
set_option linter.unusedVariables false
set_option linter.unusedSimpArgs false

theorem own_of_blk {w : World} {base g n : Nat} {xs : List Nat} (h : Blk w g (arr xs)) (hb : base ≤ g) (hn : xs.length = n) (hm : n ≤ 4194304) : Own w base (some ⟨g, 0, none⟩) n n xs := by
  refine ⟨by simp [hn], .inr ⟨g, n, arr xs, rfl, hb, h, Nat.le_refl _, by unfold maxLen; omega, by rw [arr_size, hn, Nat.mul_one], ?_⟩⟩
  rw [Nat.mul_one]
  unfold arr
  rw [List.take_of_length_le (by simp [hn])]
theorem rlimb_int (A : Option Addr) (n c : Nat) (xs : List Nat) (w : World) (i : Int) (k : Nat) (hi : i = (k : Int)) (h : Rd w A n c xs) :
    Calls Try.prog 46 #[.slice A n c, .int .i64 i] w fun e w' => e = .returned (.int .u32 (lim xs k : Nat)) ∧ w = w' := by
  subst hi
  exact rlimb_calls A n c xs w k h
def RshInv (L xs : List Nat) (k j cc : Nat) : Prop := L.length = k / 32 + j ∧ Sm L ∧ cc < 2 ^ (k % 32) ∧ val L + pw (k / 32 + j) * cc = pv xs j * 2 ^ k
theorem rsh_step {L xs : List Nat} {k j cc t : Nat} (hx : lim xs j < 4294967296) (ht : t = cc + lim xs j * 2 ^ (k % 32)) (h : RshInv L xs k j cc) : RshInv (L ++ [t % 4294967296]) xs k (j + 1) (t / 4294967296) := by
  obtain ⟨h1, h2, h3, h4⟩ := h
  refine ⟨by simp [h1]; omega, h2.snoc (by omega), ?_, ?_⟩
  · apply Nat.div_lt_of_lt_mul
    have := Nat.mul_le_mul_right (2 ^ (k % 32)) (show lim xs j + 1 ≤ 4294967296 by omega)
    rw [Nat.add_mul, Nat.one_mul] at this
    omega
  · have e : pw (k / 32 + j) * t = pw (k / 32 + j) * (t % 4294967296) + pw (k / 32 + j) * (4294967296 * (t / 4294967296)) := by rw [← Nat.mul_add, Nat.mod_add_div]
    have e2 : pw (k / 32 + j) * t = pw (k / 32 + j) * cc + pw j * lim xs j * 2 ^ k := by
      rw [ht, Nat.mul_add, pow_split k, pw_add, Nat.mul_comm (pw (k / 32)) (pw j), Nat.mul_assoc (pw j), Nat.mul_assoc (pw j), Nat.mul_left_comm (pw (k / 32)), Nat.mul_assoc (pw j)]
    rw [val_snoc, h1, pv_succ, Nat.add_mul, ← h4, show k / 32 + (j + 1) = k / 32 + j + 1 by omega, pw]
    rw [← Nat.mul_assoc (pw (k / 32 + j)) 4294967296, Nat.mul_comm (pw (k / 32 + j)) 4294967296] at e
    omega
theorem rsh_end {L xs : List Nat} {k n cc : Nat} (hn : xs.length = n) (h : RshInv L xs k n cc) : val (L ++ [cc]) = val xs * 2 ^ k := by
  obtain ⟨h1, h2, h3, h4⟩ := h
  rw [val_snoc, h1, h4, pv_len (by omega)]
theorem two31 (k : Nat) : 2 ^ (k % 32) ≤ 2147483648 := by
  have := Nat.pow_le_pow_right (n := 2) (by omega) (show k % 32 ≤ 31 by omega)
  simpa using this
set_option maxHeartbeats 1000000 in
theorem rshl_calls (A : Option Addr) (n c : Nat) (xs : List Nat) (w : World) (k : Nat) (h : Rd w A n c xs) (hn : n ≤ 1048576) (hk : k ≤ 1048576) :
    Calls Try.prog 50 #[.slice A n c, .int .i64 (k : Int)] w (Gives w (dg (val xs * 2 ^ k))) := by
  have hmk := fun W => run_mk 22 (.inl rfl) (k / 32) ((k : Int) / 32) (by omega) (by omega) W
  have HL := hide h.len
  go_enter Try.func50, Try.ntmps50
  go_wp2
  go_loopw [5, 6, 7] (fun o cy i wr => ∃ (j cc : Nat) (A1 : Option Addr) (c1 : Nat) (L : List Nat), j ≤ n ∧ i = .int .i64 j ∧ cy = .int .u64 cc ∧ cc ≤ 2147483647 ∧ o = .slice A1 (k / 32 + j) c1 ∧ Own wr w.heap.size A1 (k / 32 + j) c1 L ∧ Below w.heap.size w wr ∧ Hid (RshInv L xs k j cc)) (fun _ _ i _ => n - (intOf i).toNat)
  case atStart =>
    refine ⟨0, 0, _, _, zs (k / 32), by omega, rfl, rfl, by omega, rfl, own_of_blk (Blk.new _ _) (Nat.le_refl _) (zs_len _) (by omega), (Below.refl _ _).alloc (Nat.le_refl _) _, ⟨by rw [zs_len]; rfl, zs_sm _, Nat.two_pow_pos _, by rw [zs_val, pv_zero]; simp⟩⟩
  case round =>
    obtain ⟨j, cc, A1, c1, L, hj, rfl, rfl, hcc, rfl, hown, hb, HI⟩ := hrel
    have hbs := hb.size
    by_cases hjn : j < n
    · have hx := h.sm.lim j
      have h31 := two31 k
      have hlt := HI.out.2.2.1
      obtain ⟨wd, hwd⟩ : ∃ wd, wd = lim xs j * 2 ^ (k % 32) := ⟨_, rfl⟩
      have hwb : wd < 9223372036854775808 := by rw [hwd]; have := Nat.mul_le_mul (show lim xs j ≤ 4294967295 by omega) h31; omega
      have hwd1 : IntKind.u64.wrap ((lim xs j : Int) * 2 ^ (k % 32)) = (wd : Int) := by
        rw [hwd] at hwb
        rw [hwd, IntWalk.u64_in]
        · simp
        · have : ((lim xs j * 2 ^ (k % 32) : Nat) : Int) = (lim xs j : Int) * 2 ^ (k % 32) := by simp
          omega
      obtain ⟨t, ht⟩ : ∃ t, t = cc + lim xs j * 2 ^ (k % 32) := ⟨_, rfl⟩
      have hor : bits .or .u64 (cc : Int) (wd : Int) = (t : Int) := by
        have := u64_or_nat cc wd (by omega) (by omega)
        rw [hwd, Nat.mul_comm, or_add hlt, Nat.mul_comm (2 ^ (k % 32)), ← ht] at this
        rw [hwd]
        exact this
      have hst := rsh_step hx ht HI.out
      have htb : t ≤ 18446744073709551615 := by omega
      have hcb := hst.2.2.1
      obtain ⟨v, hv⟩ : ∃ v, v = t % 4294967296 := ⟨_, rfl⟩
      have hv1 : (t : Int) % 4294967296 = (v : Int) := by omega
      have hv2 : v < 4294967296 := by omega
      rw [← hv] at hst
      have hcb2 : t / 4294967296 ≤ 2147483647 := by omega
      have HS := hide hst
      clear hst hv ht hwd hcb h31 hlt
      obtain ⟨b1, o1, rfl, -, hc1⟩ := (h.below hb).get (k := j) hjn
      go_wp2_with (at_builtin; refine wpList_app rfl (.tmp 27) (.tmp 30) 22 22 rfl (.inl rfl) (.inl rfl) w.heap.size A1 (k / 32 + j) c1 L rfl (hown.alloc _) _ 1 1 [v] rfl (rd_one _ v hv2) (by omega) (by simp; omega) ?_; intro A' c' w' hown' hb')
      go_roundw
      case rel => exact ⟨j + 1, t / 4294967296, A', c', L ++ [v], by omega, by go_num, by go_num, hcb2, rfl, hown', (hb.alloc hbs _).trans hb', HS⟩
      case measure => simp [intOf]; omega
    · obtain rfl : n = j := by omega
      have HE := hide (rsh_end HL.out HI.out)
      have hs1 : Sm (L ++ [cc]) := HI.out.2.1.snoc (by omega)
      have hb2 : ∀ o, Below w.heap.size w (wr.alloc o) := fun o => hb.alloc hbs o
      go_wp2_with (first
          | (at_builtin; refine wpList_app rfl (.tmp 34) (.tmp 37) 22 22 rfl (.inl rfl) (.inl rfl) w.heap.size A1 (k / 32 + n) c1 L rfl (hown.alloc _) _ 1 1 [cc] rfl (rd_one _ cc (by omega)) (by omega) (by simp; omega) ?_; intro A' c' w' hown' hb')
          | (go_at_call 18; refine (rmake_at _ _ _ _ _ _ HE.out (hown'.rd hs1) (by omega)).mono ?_; rintro e w2 ⟨A2, c2, rfl, hr, hb3⟩))
      go_ret
      exact ⟨A2, c2, rfl, hr, below_then ((hb2 _).trans hb') (Nat.le_refl _) hb3⟩
end Go.Proofs.Ytllbncipadjjgaa
