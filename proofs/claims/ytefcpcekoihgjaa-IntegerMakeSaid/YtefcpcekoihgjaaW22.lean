/-
  The specification's Mul.
-/
import Derived.Test.YtefcpcekoihgjaaW21
import Derived.Test.YtefcpcekoihgjaaW6
namespace Go.Proofs.Ytefcpcekoihgjaa
open Go.RowKit
set_option linter.unusedVariables false
set_option linter.unusedSimpArgs false

def RmInv (P xs ys : List Nat) (n m i : Nat) : Prop := P.length = n + m + 1 ∧ Sm P ∧ (∀ j, i + m ≤ j → lim P j = 0) ∧ pv P (i + m) = pv xs i * val ys
theorem rm_start (xs ys : List Nat) (n m : Nat) : RmInv (zs (n + m + 1)) xs ys n m 0 := ⟨zs_len _, zs_sm _, fun j _ => zs_lim _ j, by rw [zs_pv, pv_zero, Nat.zero_mul]⟩
theorem rm_step {P T xs ys : List Nat} {n m i cc : Nat} (hi : i < n) (hy : ys.length = m) (hsy : Sm ys) (hx : lim xs i < 4294967296) (h : RmInv P xs ys n m i) (ha : AmInv P T ys i (lim xs i) (m + 1) cc) : RmInv T xs ys n m (i + 1) := by
  obtain ⟨h1, h2, h3, h4⟩ := h
  obtain ⟨a1, a2, a3, a4⟩ := ha
  have hz : lim P (i + m) = 0 := h3 _ (Nat.le_refl _)
  have e1 : pv (P.drop i) (m + 1) = pv (P.drop i) m := by rw [pv_succ, lim_drop, hz, Nat.mul_zero, Nat.add_zero]
  have l1 := pv_lt (h2.drop i) m
  have l2 := val_lt hsy
  rw [hy] at l2
  rw [pv_len (xs := ys) (by omega), e1] at a4
  have hcc : cc = 0 := by
    rcases Nat.eq_zero_or_pos cc with h0 | h0
    · exact h0
    · have h5 := Nat.le_mul_of_pos_right (pw (m + 1)) h0
      have h6 := Nat.mul_le_mul_left (val ys) (show lim xs i ≤ 4294967295 by omega)
      have e2 : pw (m + 1) = 4294967296 * pw m := rfl
      omega
  subst hcc
  rw [Nat.mul_zero, Nat.add_zero] at a4
  refine ⟨a1.trans h1, a2, fun j hj => (a3 j (by omega)).trans (h3 j (by omega)), ?_⟩
  rw [show i + 1 + m = i + (m + 1) by omega, pv_split, a4, pv_succ, Nat.add_mul, ← h4, pv_split P, pv_congr (xs := T) (ys := P) fun j hj => a3 j (.inl hj), Nat.mul_add, Nat.mul_assoc, Nat.mul_comm (lim xs i)]
  omega
theorem rm_end {P xs ys : List Nat} {n m : Nat} (hx : xs.length = n) (h : RmInv P xs ys n m n) : val P = val xs * val ys := by
  obtain ⟨h1, h2, h3, h4⟩ := h
  rw [← pv_full, h1, pv_succ, h3 _ (Nat.le_refl _), h4, Nat.mul_zero, Nat.add_zero, pv_len (by omega)]
set_option maxHeartbeats 1000000 in
theorem rmul_calls (A B : Option Addr) (n m c d : Nat) (xs ys : List Nat) (w : World) (h : Rd w A n c xs) (h2 : Rd w B m d ys) (hn : n ≤ 1048576) (hm : m ≤ 1048576) :
    Calls Try.prog 52 #[.slice A n c, .slice B m d] w (Gives w (dg (val xs * val ys))) := by
  have hmk := fun W => run_mk 22 (.inl rfl) (n + m + 1) ((n : Int) + (m : Int) + 1) (by omega) (by omega) W
  have HL := hide (And.intro h.len h2.len)
  go_enter Try.func52, Try.ntmps52
  go_wp2
  go_loopw [6] (fun i wr => ∃ (j : Nat) (P : List Nat), j ≤ n ∧ i = .int .i64 j ∧ Below w.heap.size w wr ∧ Blk wr w.heap.size (arr P) ∧ Hid (RmInv P xs ys n m j)) (fun i _ => n - (intOf i).toNat)
  case atStart => exact ⟨0, _, by omega, rfl, (Below.refl _ _).alloc (Nat.le_refl _) _, Blk.new _ _, rm_start _ _ _ _⟩
  case round =>
    obtain ⟨j, P, hj, rfl, hb, hbl, HI⟩ := hrel
    by_cases hjn : j < n
    · have hx := h.sm.lim j
      obtain ⟨wo, rfl⟩ : ∃ wo : World, wo = wr := ⟨_, rfl⟩
      go_wp2
      go_loopw [7, 8] (fun cy kk wi => ∃ (k cc : Nat) (T : List Nat), k ≤ m + 1 ∧ kk = .int .i64 k ∧ cy = .int .u64 cc ∧ cc ≤ 4294967295 ∧ Below w.heap.size w wi ∧ Blk wi w.heap.size (arr T) ∧ Hid (AmInv P T ys j (lim xs j) k cc)) (fun _ kk _ => m + 1 - (intOf kk).toNat)
      case atStart => exact ⟨0, 0, P, by omega, rfl, rfl, by omega, hb, hbl, am_start P ys j _ HI.out.2.1⟩
      case round =>
        obtain ⟨k, cc, T, hk, rfl, rfl, hcc, hb2, hbl2, HA⟩ := hrel
        by_cases hkm : k ≤ m
        · have hPl := HI.out.1
          have hok : j + k < T.length := by have := HA.out.1; omega
          have hbc : wr.cell? ⟨w.heap.size, j + k, none⟩ = some (.int .u32 (lim T (j + k) : Nat)) := blk_cell hbl2 hok
          have hbf := hbl2.frozen (j + k)
          have hsT := HA.out.2.1.lim (j + k)
          have hy := h2.sm.lim k
          obtain ⟨t, ht⟩ : ∃ t, t = cc + (lim xs j * lim ys k + lim T (j + k)) := ⟨_, rfl⟩
          have hxy := mul_bound hx hy
          have hxy0 : (0 : Int) ≤ (lim xs j : Int) * (lim ys k : Int) := Int.mul_nonneg (by omega) (by omega)
          have hxy1 : (lim xs j : Int) * (lim ys k : Int) ≤ 18446744065119617025 := by
            have : ((lim xs j * lim ys k : Nat) : Int) = (lim xs j : Int) * (lim ys k : Int) := by simp
            omega
          have hst := am_step (by omega) HA.out
          rw [← ht] at hst
          have ht1 : (cc : Int) + ((lim xs j : Int) * (lim ys k : Int) + (lim T (j + k) : Int)) = (t : Int) := by rw [ht]; simp
          have htb : t ≤ 18446744073709551615 := by omega
          obtain ⟨v, hv⟩ : ∃ v, v = t % 4294967296 := ⟨_, rfl⟩
          have hv1 : (t : Int) % 4294967296 = (v : Int) := by omega
          rw [← hv] at hst
          have HS := hide hst
          have HT1 := hide ht1
          have hr2 := h2.below hb2
          obtain ⟨b1, o1, rfl, -, hc1⟩ := (h.below hb2).get (k := j) hjn
          clear hst hv ht ht1 hPl
          go_wp2
          go_quiet ((go_at_call 55; exact quiet_left (rlimb_calls B m d ys _ k (hr2.below (below_drewN (Below.refl _ _) _)))))
          go_wp2
          go_roundw
          case rel =>
            rw [HT1.out, hv1]
            exact ⟨k + 1, t / 4294967296, _, by omega, by go_num, by go_num, by omega, (below_drewN hb2 _).setCell (Nat.le_refl _) _, blk_set (hbl2.drewN _) _ v, HS⟩
          case measure => simp [intOf]; omega
        · obtain rfl : m + 1 = k := by omega
          have HS := hide (rm_step hjn HL.out.2 h2.sm hx HI.out HA.out)
          go_wp2
          go_roundw
          case rel => exact ⟨j + 1, T, by omega, by go_num, hb2, hbl2, HS⟩
          case measure => simp [intOf]; omega
    · obtain rfl : n = j := by omega
      have HE := hide (rm_end HL.out.1 HI.out)
      have hr := blk_rd0 (c := n + m + 1) hbl HI.out.2.1 HI.out.1 (by omega)
      go_wp2_with (go_at_call 38; refine (rmake_at _ _ _ _ _ _ HE.out hr (by omega)).mono ?_; rintro e w2 ⟨A2, c2, rfl, hr3, hb3⟩)
      go_ret
      exact ⟨A2, c2, rfl, hr3, below_then hb (Nat.le_refl _) hb3⟩
end Go.Proofs.Ytefcpcekoihgjaa
