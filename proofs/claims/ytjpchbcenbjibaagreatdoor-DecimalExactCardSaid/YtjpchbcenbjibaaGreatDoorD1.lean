/-
  The specification's Digits, Power, digits.
-/
import Derived.Test.YtjpchbcenbjibaaGreatDoorB0
import Derived.Test.YtjpchbcenbjibaaGreatDoorQ0
import Derived.Laws.DeepStrings4
import Derived.IntWalk
namespace Go.Proofs.YtjpchbcenbjibaaGreatDoor
open Go.RowKit
set_option linter.unusedVariables false
set_option linter.unusedSimpArgs false

theorem rmul_n (A B : Option Addr) (n m c d k l j X Y Z : Nat) (w : World) (hZ : X * Y = Z) (h : Nz w A n c k X) (h2 : Nz w B m d l Y) (hj : k + l ≤ j) (hJ : j ≤ 1048576) :
    Calls Tryz.prog 27 #[.slice A n c, .slice B m d] w (GY w j Z) := by
  have l1 := mul_pw h.lt h2.lt
  obtain ⟨h1, xs, hx, ex⟩ := h
  obtain ⟨k1, ys, hy, ey⟩ := h2
  exact (rmul_at A B n m c d xs ys w X Y Z ex ey hZ hx hy (by omega) (by omega)).mono fun e w' hg => gy_of hg (by rw [← hZ]; exact Nat.lt_of_lt_of_le l1 (pw_mono hj))
theorem radd_n (A B : Option Addr) (n m c d k l j X Y Z : Nat) (w : World) (hZ : X + Y = Z) (h : Nz w A n c k X) (h2 : Nz w B m d l Y) (hj : k + 1 ≤ j) (hj2 : l + 1 ≤ j) (hJ : j ≤ 1048576) :
    Calls Tryz.prog 26 #[.slice A n c, .slice B m d] w (GY w j Z) := by
  have l1 := add_pw (Nat.lt_of_lt_of_le h.lt (pw_mono (show k ≤ j - 1 by omega))) (Nat.lt_of_lt_of_le h2.lt (pw_mono (show l ≤ j - 1 by omega)))
  rw [show j - 1 + 1 = j by omega] at l1
  obtain ⟨h1, xs, hx, ex⟩ := h
  obtain ⟨k1, ys, hy, ey⟩ := h2
  exact (radd_at A B n m c d xs ys w X Y Z ex ey hZ hx hy (by omega) (by omega)).mono fun e w' hg => gy_of hg (by rw [← hZ]; exact l1)
theorem rdiv_n (A B : Option Addr) (n m c d k l X Y Q R : Nat) (w : World) (hQ : X / Y = Q) (hR : X % Y = R) (hY : 0 < Y) (h : Nz w A n c k X) (h2 : Nz w B m d l Y) (hk : k ≤ 16384) (hl : l ≤ 16384) :
    Calls Tryz.prog 29 #[.slice A n c, .slice B m d] w (GD w k l Q R) := by
  have l1 : Q < pw k := by rw [← hQ]; exact Nat.lt_of_le_of_lt (Nat.div_le_self _ _) h.lt
  have l2 : R < pw l := by rw [← hR]; exact Nat.lt_trans (Nat.mod_lt _ hY) h2.lt
  obtain ⟨h1, xs, hx, ex⟩ := h
  obtain ⟨k1, ys, hy, ey⟩ := h2
  subst hQ hR
  refine (rdiv_L A B n m c d xs ys w X Y _ _ ex ey rfl rfl hY hx hy (by omega) (by omega)).mono ?_
  rintro e w' ⟨A1, c1, B1, d1, he, r1, r2, hb⟩
  exact ⟨A1, _, c1, B1, _, d1, he, ⟨dg_le l1, r1⟩, ⟨dg_le l2, r2⟩, hb⟩
theorem rof_n (i : Int) (x k : Nat) (w : World) (hi : i = (x : Int)) (hx : x < pw k) (hx2 : x ≤ 18446744073709551615) : Calls Tryz.prog 25 #[.int .u64 i] w (GY w k x) :=
  (rof_at i x w hi hx2).mono fun _ _ hg => gy_of hg hx
theorem ruint_n (A : Option Addr) (n c k X : Nat) (w : World) (h : Ny w A n c k X) (hX : X < 4294967296) (hk : k ≤ 1048576) :
    Calls Tryz.prog 57 #[.slice A n c] w fun e w' => e = .returned (.tuple #[.int .u64 (X : Int), .bool true]) ∧ Below w.heap.size w w' := by
  refine ruint_calls A n c (dg X) w X true ?_ h.2 (by have := h.1; omega)
  have h1 : (dg X).length ≤ 1 := dg_le (by simpa [pw] using hX)
  unfold u64Of
  rw [tlen_dg, if_pos (by omega), val_dg]
theorem ny_pos {w : World} {A : Option Addr} {n c k X : Nat} (h : Ny w A n c k X) : n = 0 ↔ X = 0 := by
  have h1 := h.len
  have h2 : (dg X).length = 0 ↔ X = 0 := by rw [List.length_eq_zero_iff, dg_nil_iff]
  rw [h1] at h2
  exact h2
theorem ten_pw {k : Nat} (hk : 1 ≤ k) : 10 < pw k := Nat.lt_of_lt_of_le (by decide : 10 < pw 1) (pw_mono hk)
theorem digit_cut (r : Nat) (h : r < 10) : (ByteArray.extract (⟨#[48, 49, 50, 51, 52, 53, 54, 55, 56, 57]⟩ : ByteArray) r (r + 1)) = bs [UInt8.ofNat (48 + r)] := by
  have : ∀ r : Fin 10, (ByteArray.extract (⟨#[48, 49, 50, 51, 52, 53, 54, 55, 56, 57]⟩ : ByteArray) r.1 (r.1 + 1)) = bs [UInt8.ofNat (48 + r.1)] := by decide +kernel
  exact this ⟨r, h⟩
set_option maxHeartbeats 1000000 in
theorem digits_calls (A : Option Addr) (n c k X : Nat) (w : World) (h : Ny w A n c k X) (hk : k ≤ 16384) (hl : (dt X).length ≤ 1000000) :
    Calls Tryz.prog 30 #[.slice A n c] w fun e w' => e = .returned (.string (bs (dtx X))) ∧ Below w.heap.size w w' := by
  have k1 : 1 ≤ 16384 := by omega
  have k2 : 16384 ≤ 1048576 := by omega
  have k3 : 1 ≤ 1 := Nat.le_refl _
  have HL := hide hl
  clear hl
  go_enter Tryz.func30, Tryz.ntmps30
  go_wp2
  go_loopw [0, 3] (fun nv sv wr => ∃ (M n' c' : Nat) (A' : Option Addr) (l : List UInt8), nv = .slice A' n' c' ∧ sv = .string (bs l) ∧ Ny wr A' n' c' k M ∧ Hid (dt M ++ l = dt X) ∧ Below w.heap.size w wr) (fun _ sv _ => (dt X).length - strLen sv)
  case atStart => exact ⟨X, n, c, A, [], rfl, rfl, h, hide (by rw [List.append_nil]), Below.refl _ _⟩
  case round =>
    obtain ⟨M, n', c', A', l, rfl, rfl, hy, HD, hb⟩ := hrel
    have hp := ny_pos hy
    by_cases h0 : M = 0
    · have hn0 : n' = 0 := by omega
      subst hn0 h0
      have hl2 : l = dt X := by have := HD.out; rwa [dt_zero, List.nil_append] at this
      have HL2 := hide hl2
      clear hl2 hp HD hy
      by_cases hx : l = []
      · have hX0 : X = 0 := dt_nil.1 (by rw [← HL2.out]; exact hx)
        subst hx
        have he : (bs []).toList.isEmpty = true := by rw [bs_toList]; rfl
        go_wp2
        go_ret
        exact ⟨by rw [dtx, if_pos hX0]; rfl, hb⟩
      · have hX0 : X ≠ 0 := fun e => hx (by rw [HL2.out]; exact dt_nil.2 e)
        have he : (bs l).toList.isEmpty = false := by rw [bs_toList]; simpa using hx
        clear hx
        go_wp2
        go_ret
        exact ⟨by rw [dtx, if_neg hX0, ← HL2.out]; rfl, hb⟩
    · have hn0 : 0 < n' := by omega
      have hr : M % 10 < 10 := Nat.mod_lt _ (by omega)
      obtain ⟨r, hrr⟩ : ∃ r, M % 10 = r := ⟨_, rfl⟩
      obtain ⟨q, hqq⟩ : ∃ q, M / 10 = q := ⟨_, rfl⟩
      have HS := hide (show dt M = dt q ++ [UInt8.ofNat (48 + r)] by rw [dt_pos h0, hrr, hqq])
      rw [hrr] at hr
      have HR := hide hrr
      have HQ := hide hqq
      have hls : l.length ≤ 1000000 := by
        have e1 := congrArg List.length HD.out
        have e2 := HL.out
        rw [List.length_append] at e1
        omega
      have r4 : r < 4294967296 := by omega
      have hsz : ¬ (9223372036854775807 < min (r + 1) 10 - r + (bs l).size) := by rw [bs_size]; omega
      have HE := hide (show (ByteArray.extract (⟨#[48, 49, 50, 51, 52, 53, 54, 55, 56, 57]⟩ : ByteArray) r (r + 1)) ++ bs l = bs (UInt8.ofNat (48 + r) :: l) by rw [digit_cut r hr, bs_append]; rfl)
      have HM := hide (show (dt X).length - (l.length + 1) < (dt X).length - l.length by
        have e1 := congrArg List.length HD.out
        rw [List.length_append, HS.out, List.length_append] at e1
        simp at e1
        omega)
      have hyz := hy.nz
      clear hp h0 hrr hqq hy
      go_wp2_with fail
      refine (rof_n 10 10 1 _ rfl (ten_pw k3) (by decide)).mono ?_
      rintro e w1 ⟨A1, n1, c1, rfl, ho, b1⟩
      have hy1 := hyz.below b1
      go_wp2_with fail
      refine (rdiv_n _ _ _ _ _ _ _ _ M 10 q r _ HQ.out HR.out (by decide) hy1 ho.nz hk k1).mono ?_
      rintro e w2 ⟨A2, n2, c2, A3, n3, c3, rfl, hq, hr2, b2⟩
      go_wp2_with fail
      refine (ruint_n _ _ _ _ r _ hr2 r4 (by decide)).mono ?_
      rintro e w3 ⟨rfl, b3⟩
      have hq3 := hq.below b3
      go_wp2_with fail
      go_roundw
      case rel => exact ⟨q, n2, c2, A2, UInt8.ofNat (48 + r) :: l, rfl, by rw [HE.out], hq3, hide (by rw [← HD.out, HS.out, List.append_assoc]; rfl), below_then (below_then (below_then hb (Nat.le_refl _) b1) (Nat.le_refl _) b2) (Nat.le_refl _) b3⟩
      case measure =>
        rw [HE.out]
        simp only [strLen, bs_size, List.length_cons]
        exact HM.out
theorem power_n (n : Nat) (w : World) (hn : n ≤ 5000) : Calls Tryz.prog 28 #[.int .i64 (n : Int)] w (GY w (n + 1) (10 ^ n)) := by
  have k3 : 1 ≤ 1 := Nat.le_refl _
  go_enter Tryz.func28, Tryz.ntmps28
  go_wp2_with fail
  refine (rof_n 1 1 1 _ rfl (by decide) (by decide)).mono ?_
  rintro e w1 ⟨A1, n1, c1, rfl, ho, b1⟩
  go_wp2
  go_loopw [3, 4] (fun pv iv wr => ∃ (i n' c' : Nat) (A' : Option Addr), i ≤ n ∧ iv = .int .i64 (i : Int) ∧ pv = .slice A' n' c' ∧ Ny wr A' n' c' (i + 1) (10 ^ i) ∧ Below w.heap.size w wr) (fun _ iv _ => n - (intOf iv).toNat)
  case atStart => exact ⟨0, n1, c1, A1, Nat.zero_le _, rfl, rfl, ho, b1⟩
  case round =>
    obtain ⟨i, n', c', A', hi, rfl, rfl, hy, hb⟩ := hrel
    by_cases hin : i < n
    · have hyz := hy.nz
      clear hy
      go_wp2_with fail
      refine (rof_n 10 10 1 _ rfl (ten_pw k3) (by decide)).mono ?_
      rintro e w2 ⟨A2, n2, c2, rfl, ho2, b2⟩
      have hy2 := hyz.below b2
      go_wp2_with fail
      refine (rmul_n _ _ _ _ _ _ (i + 1) 1 (i + 2) _ _ (10 ^ (i + 1)) _ rfl hy2 ho2.nz (Nat.le_refl _) (by omega)).mono ?_
      rintro e w3 ⟨A3, n3, c3, rfl, hz, b3⟩
      go_wp2_with fail
      go_roundw
      case rel => exact ⟨i + 1, n3, c3, A3, by omega, by go_num, rfl, hz, below_then (below_then hb (Nat.le_refl _) b2) (Nat.le_refl _) b3⟩
      case measure => simp [intOf]; omega
    · obtain rfl : i = n := by omega
      go_wp2
      go_ret
      exact ⟨_, _, _, rfl, hy, hb⟩
theorem ten_lt_pw (i : Nat) : 10 ^ i < pw (i + 1) := by
  induction i with
  | zero => decide
  | succ i ih =>
    have e : pw (i + 1 + 1) = 4294967296 * pw (i + 1) := rfl
    rw [e, Nat.pow_succ]
    omega
theorem ny_tight {w : World} {A : Option Addr} {n c k j X : Nat} (h : Ny w A n c k X) (hX : X < pw j) : Ny w A n c j X := h.2.ny hX
theorem run_lt (l : List UInt8) (a i k : Nat) (hk : prun (l.drop a) = k) (hi : i ≤ k) : dval ((l.drop a).take i) < pw (i + 1) := by
  have h1 := dval_lt (l := (l.drop a).take i) (fun c hc => take_isd (l.drop a) c (by
    rw [hk]
    rw [show (l.drop a).take i = ((l.drop a).take k).take i by rw [List.take_take, Nat.min_eq_left hi]] at hc
    exact List.mem_of_mem_take hc))
  have h2 : ((l.drop a).take i).length ≤ i := List.length_take_le _ _
  exact Nat.lt_trans (Nat.lt_of_lt_of_le h1 (Nat.pow_le_pow_right (by decide) h2)) (ten_lt_pw i)
end Go.Proofs.YtjpchbcenbjibaaGreatDoor
