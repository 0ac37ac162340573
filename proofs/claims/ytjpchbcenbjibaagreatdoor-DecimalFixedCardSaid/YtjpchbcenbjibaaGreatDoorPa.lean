/-
  The program's digits: appendGroup, digitsOf.
-/
import Derived.Test.YtjpchbcenbjibaaGreatDoorPq
import Derived.Test.YtjpchbcenbjibaaGreatDoorD1
import Derived.Deep.DeepMust
namespace Go.Proofs.YtjpchbcenbjibaaGreatDoor
open Go.RowKit
set_option linter.unusedVariables false
set_option linter.unusedSimpArgs false

theorem uint_n (A : Option Addr) (n c k X : Nat) (w : World) (h : Ny w A n c k X) (hX : X ≤ 18446744073709551615) (hk : k ≤ 1048576) :
    Calls Tryz.prog 84 #[.slice A n c] w fun e w' => e = .returned (.tuple #[.int .u64 (X : Int), .bool true]) ∧ w = w' := by
  refine uint_calls A n c (dg X) w X true ?_ h.2 (by have := h.1; omega)
  unfold u64Of
  have h2 : tlen (dg X) ≤ 2 := by
    rw [tlen_dg]
    exact dg_le (k := 2) (by have : pw 2 = 18446744073709551616 := by decide
                             omega)
  rw [if_pos h2, val_dg]
set_option maxHeartbeats 1000000 in
theorem grp_calls (B : Nat) (O : Option Addr) (n c : Nat) (l : List UInt8) (A : Option Addr) (m d k X : Nat) (w : World) (ho : Ow w B O n c l) (hB : B ≤ w.heap.size) (hx : Ny w A m d k X) (hX : X < 1000000000) (hn : n ≤ 1000000) (hk : k ≤ 1048576) :
    Calls Tryz.prog 52 #[.slice O n c, .slice A m d] w fun e w' => ∃ O' c', e = .returned (.slice O' (n + 9) c') ∧ Ow w' B O' (n + 9) c' (l ++ rd 9 X) ∧ Kt B w w' := by
  go_enter Tryz.func52, Tryz.ntmps52
  go_wp2_with fail
  refine (uint_n _ _ _ _ X _ hx (by omega) hk).mono ?_
  rintro e w' ⟨rfl, rfl⟩
  go_wp2_with fail
  go_loopw [0, 5, 12] (fun ov xv iv wr => ∃ (i c' : Nat) (O' : Option Addr), i ≤ 9 ∧ ov = .slice O' (n + i) c' ∧ xv = .int .u64 ((X / 10 ^ i : Nat) : Int) ∧ iv = .int .i64 (i : Int) ∧ Ow wr B O' (n + i) c' (l ++ rd i X) ∧ Kt B w wr) (fun _ _ iv _ => 9 - (intOf iv).toNat)
  case atStart => exact ⟨0, c, O, by omega, rfl, by simp, rfl, by simpa [rd] using ho, Kt.refl _ _⟩
  case round =>
    obtain ⟨i, c', O', hi, rfl, rfl, rfl, how, hkt⟩ := hrel
    have hsz := hkt.1.size
    by_cases hlt : i < 9
    · have hyX : X / 10 ^ i < 1000000000 := Nat.lt_of_le_of_lt (Nat.div_le_self _ _) hX
      have HR := hide (rd_snoc i X)
      have HD := hide (show X / 10 ^ i / 10 = X / 10 ^ (i + 1) by rw [Nat.div_div_eq_div_mul, Nat.pow_succ])
      obtain ⟨y, hy⟩ : ∃ y, X / 10 ^ i = y := ⟨_, rfl⟩
      rw [hy] at hyX HR HD
      rw [hy]
      have hr : y % 10 < 10 := Nat.mod_lt _ (by omega)
      obtain ⟨r, hrr⟩ : ∃ r, y % 10 = r := ⟨_, rfl⟩
      rw [hrr] at hr HR
      have e1 : (y : Int) % 10 = (r : Int) := by omega
      have e3 : (UInt8.ofNat (48 + r)).toNat = 48 + r := digit_nat hr
      clear hy hrr
      go_wp2_with (at_builtin; go_must (refine wpList_appV rfl (.tmp 14) (.tmp 19) rfl B O' (n + i) c' (l ++ rd i X) rfl (how.alloc _) _ (UInt8.ofNat (48 + r)) _ (by rw [e3]; simp) rfl (cell_newV _ _ _) (by omega) (by simp; omega) ?_); intro A' c'' w' ow' hb')
      go_roundw
      case rel =>
        refine ⟨i + 1, c'', A', by omega, rfl, ?_, by go_num, ?_, hkt.trans ((Kt.refl _ _).alloc (by omega) _ |>.trans hb')⟩
        · rw [← HD.out]; simp
        · rw [HR.out, ← List.append_assoc]
          exact ow'
      case measure => simp [intOf]; omega
    · obtain rfl : i = 9 := by omega
      go_wp2
      go_ret
      exact ⟨_, _, rfl, how, hkt⟩
theorem Ow.below {w w' : World} {B : Nat} {A : Option Addr} {n c : Nat} {l : List UInt8} (h : Ow w B A n c l) (hb : Below w.heap.size w w') : Ow w' B A n c l := by
  refine ⟨h.1, ?_⟩
  rcases h.2 with h0 | ⟨g, cap, cur, hv, hb1, hg, rest⟩
  · exact .inl h0
  · exact .inr ⟨g, cap, cur, hv, hb1, (hb.block g (Array.getElem?_eq_some_iff.1 hg).1).trans hg, rest⟩
theorem convV (w : World) (B : Nat) (A : Option Addr) (n c : Nat) (l : List UInt8) (h : Ow w B A n c l) (hn : 0 < n) : (convert 72 9 (.slice A n c)).run Tryz.prog w = .ok (.string (bs l)) w := by
  have hl := h.len
  obtain ⟨g, cur, rfl, -⟩ := h.at_ hn
  subst hl
  refine run_convert_bytes_back w 72 9 5 ⟨g, 0, none⟩ c l Tryz.underlying72 Tryz.underlying5 Tryz.underlying9 fun j hj => ?_
  exact World.ownsRow.cells h (g := g) rfl j (.int .u8 (l[j].toNat : Int)) (by rw [List.getElem?_map, List.getElem?_eq_getElem hj]; rfl)
theorem pwT (k : Nat) : pw k ≤ 10 ^ (10 * k) := by
  induction k with
  | zero => decide
  | succ k ih =>
    have e : pw (k + 1) = 4294967296 * pw k := rfl
    have e2 : 10 ^ (10 * (k + 1)) = 10000000000 * 10 ^ (10 * k) := by rw [show 10 * (k + 1) = 10 * k + 10 by omega, Nat.pow_add, Nat.mul_comm]
    omega
theorem billion_n (w : World) : Calls Tryz.prog 49 #[.int .u64 1000000000] w (GY w 1 1000000000) :=
  (of_int 1000000000 1000000000 w rfl (by decide)).mono fun _ _ hg => gy_of hg (by decide)
theorem bits_n (A : Option Addr) (n c k X : Nat) (b : Bool) (w : World) (hb : decide (0 < X) = b) (h : Nz w A n c k X) (hk : k ≤ 1048576) :
    Calls Tryz.prog 23 #[.slice A n c] w fun e w' => ∃ r : Nat, e = .returned (.int .i64 (r : Int)) ∧ decide (0 < r) = b ∧ w = w' := by
  obtain ⟨h1, xs, hx, ex⟩ := h
  refine (bits_calls A n c xs w (nb xs) rfl hx (by omega)).mono ?_
  rintro e w' ⟨rfl, rfl⟩
  refine ⟨nb xs, rfl, ?_, rfl⟩
  have h0 := bits0 hx (r := nb xs) rfl (decide (val xs = 0)) rfl
  rw [ex] at h0
  rw [← hb]
  by_cases hz : X = 0
  · rw [decide_eq_true hz] at h0
    have : nb xs = 0 := by simpa using h0
    rw [this, hz]
  · rw [decide_eq_false hz] at h0
    have : nb xs ≠ 0 := by simpa using h0
    rw [decide_eq_true (by omega), decide_eq_true (by omega)]
set_option maxHeartbeats 2000000 in
theorem digsOf_calls (A : Option Addr) (n c K X least : Nat) (P : Int) (w : World) (hP : P = (least : Int)) (h : Ny w A n c K X) (hK : K ≤ 16384) (h1 : 1 ≤ least) (h2 : least ≤ 5000) :
    Calls Tryz.prog 24 #[.slice A n c, .int .i64 P] w (Asks w (.string (bs (pads least (dt X))))) := by
  subst hP
  have hK6 : K ≤ 65536 := by omega
  have hK7 : K ≤ 1048576 := by omega
  have hX10 : X < 10 ^ (10 * K) := Nat.lt_of_lt_of_le h.lt (pwT K)
  have HX10 := hide hX10
  have htq : Tq w w.heap.size A n := fun hn ad had => by
    obtain ⟨b, off, hA, hb, -⟩ := h.2.at_ hn
    rw [hA] at had
    injection had with had
    subst had
    exact .inl hb
  clear hX10
  go_enter Tryz.func24, Tryz.ntmps24
  go_wp2_with fail
  go_loopw [0, 5] (fun nv ov wr => ∃ (k n' c' c2 : Nat) (A' O : Option Addr), nv = .slice A' n' c' ∧ ov = .slice O (9 * k) c2 ∧ Ny wr A' n' c' K (X / 10 ^ (9 * k)) ∧ Tq wr w.heap.size A' n' ∧ Ow wr w.heap.size O (9 * k) c2 (rd (9 * k) X) ∧ Below w.heap.size w wr ∧ 9 * k ≤ 10 * K + 9) (fun _ ov _ => 10 * K + 20 - slLen ov)
  case atStart => exact ⟨0, n, c, 0, A, none, rfl, rfl, by simpa using h, htq, Ow.nil _ _, Below.refl _ _, by omega⟩
  case round =>
    obtain ⟨k, n', c', c2, A', O, rfl, rfl, hy, ht, ho, hb, hk9⟩ := hrel
    have hsz := hb.size
    obtain ⟨M, hM⟩ : ∃ M, X / 10 ^ (9 * k) = M := ⟨_, rfl⟩
    rw [hM] at hy
    have HM := hide hM
    have hyz := hy.nz
    clear hM
    by_cases h0 : M = 0
    · have hlt : X < 10 ^ (9 * k) := by
        have := HM.out
        rw [h0] at this
        exact (Nat.div_eq_zero_iff_lt (Nat.pow_pos (by decide))).1 this
      obtain ⟨z, hz⟩ := rd_dt (9 * k) X hlt
      have hfirst : (dt X).reverse.getLast? ≠ some 48 := by rw [List.getLast?_reverse]; exact dt_first X
      have HT := hide (tr_calls w.heap.size O (9 * k) c2 z (dt X).reverse (rd (9 * k) X) wr ho hz hfirst (by omega))
      have ho2 := ho.take (k := (dt X).length) (by have := congrArg List.length hz; rw [rd_len] at this; simp at this; omega) (fun _ => .inr trivial)
      have e2 : (rd (9 * k) X).take (dt X).length = (dt X).reverse := by rw [hz, List.take_append_of_le_length (by simp), List.take_of_length_le (by simp)]
      rw [e2] at ho2
      have hlen : (dt X).length ≤ 10 * K := dt_len HX10.out
      have hd0 : decide (0 < M) = false := by simp [h0]
      rw [List.length_reverse] at HT
      obtain ⟨D, hD⟩ : ∃ D, (dt X).length = D := ⟨_, rfl⟩
      rw [hD] at HT ho2 hlen
      have HDD := hide hD
      clear h0 hlt hz hfirst e2 ho hD
      go_wp2_with fail
      refine (bits_n _ _ _ _ M false _ hd0 hyz hK7).mono ?_
      rintro e w' ⟨r, rfl, hr, rfl⟩
      go_wp2_with fail
      refine (unhide HT).mono ?_
      rintro e w' ⟨rfl, rfl⟩
      go_wp2_with fail
      go_loopw [5] (fun ov wq => ∃ (j c3 : Nat) (O3 : Option Addr), ov = .slice O3 (D + j) c3 ∧ Ow wq w.heap.size O3 (D + j) c3 ((dt X).reverse ++ List.replicate j 48) ∧ Below w.heap.size w wq ∧ (j = 0 ∨ D + j ≤ least)) (fun ov _ => 5001 - slLen ov)
      case atStart => exact ⟨0, c2, O, rfl, by simpa using ho2, hb, .inl rfl⟩
      case round =>
        obtain ⟨j, c3, O3, rfl, how, hbq, hj⟩ := hrel
        have hszq := hbq.size
        obtain ⟨p, hp⟩ : ∃ p, D + j = p := ⟨_, rfl⟩
        rw [hp] at how
        by_cases hpl : p < least
        · have dl : decide ((p : Int) < (least : Int)) = true := by simp; omega
          have HP := hide hp
          rw [hp]
          clear hp hj
          go_wp2_with (at_builtin; go_must (refine wpList_appV rfl (.tmp 29) (.tmp 30) rfl w.heap.size O3 p c3 _ rfl (how.alloc _) _ 48 _ rfl rfl (cell_newV _ _ _) (by omega) (by simp; omega) ?_); intro A3 c4 w3 ow3 hb3)
          go_roundw
          case rel =>
            refine ⟨j + 1, c4, A3, by rw [← HP.out]; rfl, ?_, (hbq.alloc (by omega) _).trans hb3.1, .inr (by have := HP.out; omega)⟩
            have e : D + (j + 1) = p + 1 := by have := HP.out; omega
            rw [e, rep_snoc, ← List.append_assoc]
            exact ow3
          case measure => simp [slLen]; omega
        · have dl : decide ((p : Int) < (least : Int)) = false := by simp; omega
          have hj2 : j = least - D := by omega
          have hE : List.replicate j 48 ++ dt X = pads least (dt X) := by unfold pads; rw [HDD.out, ← hj2]
          have HE := hide hE
          have hp0 : 0 < p := by omega
          have hp6 : p ≤ 1000000 := by omega
          rw [hp]
          clear hp hj hE hj2
          go_wp2_with fail
          refine (rev_calls w.heap.size O3 p c3 _ _ how (by omega) hp6).mono ?_
          rintro e w4 ⟨rfl, ho4, hb4⟩
          have HC := convV _ _ _ _ _ _ ho4 hp0
          go_wp2
          go_ret
          exact ⟨by rw [← HE.out]; rfl, hbq.trans hb4⟩
    · have hd0 : decide (0 < M) = true := by simp; omega
      have HK9 := hide (show 9 * (k + 1) ≤ 10 * K + 9 by
        have h3 : 9 * k < 10 * K := by
          rcases Nat.lt_or_ge (9 * k) (10 * K) with h4 | h4
          · exact h4
          · exfalso
            apply h0
            rw [← HM.out]
            exact Nat.div_eq_of_lt (Nat.lt_of_lt_of_le HX10.out (Nat.pow_le_pow_right (by decide) h4))
        omega)
      have HQ := hide (show M / 1000000000 = X / 10 ^ (9 * (k + 1)) by
        rw [← HM.out, Nat.div_div_eq_div_mul, show 9 * (k + 1) = 9 * k + 9 by omega, Nat.pow_add])
      have HRD := hide (show rd (9 * k) X ++ rd 9 (M % 1000000000) = rd (9 * (k + 1)) X by
        rw [show 9 * (k + 1) = 9 * k + 9 by omega, rd_add, HM.out, show (1000000000 : Nat) = 10 ^ 9 by rfl, rd_mod])
      obtain ⟨q, hq⟩ : ∃ q, M / 1000000000 = q := ⟨_, rfl⟩
      obtain ⟨r, hr⟩ : ∃ r, M % 1000000000 = r := ⟨_, rfl⟩
      have hr9 : r < 1000000000 := by rw [← hr]; exact Nat.mod_lt _ (by decide)
      rw [hq] at HQ
      rw [hr] at HRD
      have HQ2 := hide hq
      have HR2 := hide hr
      obtain ⟨nn, hnn⟩ : ∃ nn, 9 * k = nn := ⟨_, rfl⟩
      rw [hnn] at ho HRD hk9 ⊢
      have HNN := hide hnn
      clear h0 hq hr hy hnn
      go_wp2_with fail
      refine (bits_n _ _ _ _ M true _ hd0 hyz hK7).mono ?_
      rintro e w' ⟨rb, rfl, hrb, rfl⟩
      go_wp2_with fail
      refine (billion_n _).mono ?_
      rintro e w1 ⟨A1, n1, c1, rfl, hy1, b1⟩
      have hyz1 := hyz.below b1
      have ho1 := ho.below b1
      go_wp2_with fail
      refine (div_T _ _ _ _ _ _ K 1 M 1000000000 q r _ HQ2.out HR2.out (by decide) (by decide) hyz1 hy1.nz hK6 (by decide)).mono ?_
      rintro e w3 ⟨A3, n3, c3, B3, m3, d3, rfl, hyq, hyr, b3, ty3⟩
      have ho3 := ho1.below b3
      have hb3 := below_then (below_then hb (Nat.le_refl _) b1) (Nat.le_refl _) b3
      have hsz3 := hb3.size
      go_wp2_with fail
      refine (grp_calls w.heap.size O nn c2 _ B3 m3 d3 1 r _ ho3 hsz3 hyr hr9 (by omega) (by decide)).mono ?_
      rintro e w4 ⟨O4, c4, rfl, ho4, hk4⟩
      have hq4 := hyq.kt (ty3.tq _) hk4
      have ht4 := (ty3.tq w.heap.size).kt hk4
      rw [HRD.out] at ho4
      rw [HQ.out] at hq4
      have hb4 := hb3.trans hk4.1
      go_wp2_with fail
      go_roundw
      case rel =>
        have e9 : nn + 9 = 9 * (k + 1) := by have := HNN.out; omega
        rw [e9] at ho4 ⊢
        exact ⟨k + 1, n3, c3, c4, A3, O4, rfl, rfl, hq4, ht4, ho4, hb4, HK9.out⟩
      case measure => simp [slLen]; omega
end Go.Proofs.YtjpchbcenbjibaaGreatDoor
