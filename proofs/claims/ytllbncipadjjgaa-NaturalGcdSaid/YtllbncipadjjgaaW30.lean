/-
  The specification's DivMod: bit by bit.
-/
import Derived.Test.YtllbncipadjjgaaN7
import Derived.Test.YtllbncipadjjgaaW28
import Derived.Test.YtllbncipadjjgaaW23
import Derived.Test.YtllbncipadjjgaaFr
import Derived.Test.YtllbncipadjjgaaDivLaw
namespace Go.Proofs.Ytllbncipadjjgaa
open Go.RowKit
set_option linter.unusedVariables false
set_option linter.unusedSimpArgs false

theorem rshl1 (A : Option Addr) (n c r : Nat) (w : World) (h : Rd w A n c (dg r)) (hn : n ≤ 1048576) : Calls Try.prog 50 #[.slice A n c, .int .i64 1] w (Gives w (dg (r * 2))) := by
  have := rshl_calls A n c (dg r) w 1 h hn (by omega)
  rwa [val_dg, Nat.pow_one] at this
def BdRel (X Y n G g0 : Nat) (w : World) (rv iv : Value) (wr : World) : Prop :=
  ∃ (j r : Nat) (R : Option Addr) (L c : Nat) (Qs : List Nat), rv = .slice R L c ∧ iv = .int .i64 ((j : Int) - 1) ∧ Rd wr R L c (dg r) ∧ Below w.heap.size w wr ∧ Blk wr G (arr Qs) ∧ j ≤ 32 * n ∧ Hid (BdInv Qs X Y n j r)
theorem rof_int (i : Int) (k : Nat) (w : World) (hi : i = (k : Int)) (hk : k ≤ 18446744073709551615) : Calls Try.prog 24 #[.int .u64 i] w (Gives w (dg k)) := by
  subst hi
  exact rof_calls k w hk
theorem nb_any {xs : List Nat} (hs : Sm xs) : nb xs ≤ 32 * xs.length ∧ val xs < 2 ^ nb xs := by
  rcases Nat.eq_zero_or_pos (tlen xs) with h0 | h0
  · unfold nb
    rw [if_pos h0, tlen_zero_iff.1 h0]
    simp
  · have hl := len_dg_val hs
    obtain ⟨r, hr, h1, h2, h3⟩ := nb_dg (X := val xs) (L := tlen xs - 1) (by omega)
    have e : nb (dg (val xs)) = nb xs := by
      unfold nb
      rw [dg_val hs]
      have ht : tlen (xs.take (tlen xs)) = tlen xs := by rw [← dg_val hs, tlen_dg, hl]
      rw [ht, lim_take (by omega)]
    have := tlen_le xs
    rw [← e, hr]
    exact ⟨by omega, h3⟩
section
variable (A B : Option Addr) (n m c d : Nat) (xs ys : List Nat) (w : World) (h : Rd w A n c xs) (h2 : Rd w B m d ys) (hn : n ≤ 16384) (hm : m ≤ 16384)
include h h2 hn hm
set_option maxHeartbeats 1600000 in
theorem rdm_ft (h0 : 0 < val ys) (vx vy : Nat) (ux : u64Of xs = (vx, false)) (uy : u64Of ys = (vy, true)) (hvy : ((vy : Int) == 0) = false) : Calls Try.prog 56 #[.slice A n c, .slice B m d] w (Gives3 w (dg (val xs / val ys)) (dg (val xs % val ys)) 0) := by
  obtain ⟨X, hX⟩ : ∃ X, val xs = X := ⟨_, rfl⟩
  obtain ⟨Y, hY⟩ : ∃ Y, val ys = Y := ⟨_, rfl⟩
  obtain ⟨b0, hb0, hb1, hb2⟩ : ∃ b0, nb xs = b0 ∧ b0 ≤ 32 * n ∧ X < 2 ^ b0 := by
    rw [← hX]
    have := nb_any h.sm
    rw [h.len] at this
    exact ⟨_, rfl, this.1, this.2⟩
  have hYm : Y < pw m := by rw [← hY]; exact rd_lt h2 (Nat.le_refl _)
  rw [hX, hY]
  rw [hY] at h0
  have hmk := fun W => run_mk 22 (.inl rfl) n (n : Int) rfl (by omega) W
  have HUX := hide (fun W (k : Rd W A n c xs) => ruint_calls A n c xs W vx false ux k (by omega))
  have HUY := hide (fun W (k : Rd W B m d ys) => ruint_calls B m d ys W vy true uy k (by omega))
  have HBI := hide (fun W (k : Rd W A n c xs) => rbits_calls A n c xs W b0 hb0 k (by omega))
  have HS := hide (bd_start (Y := Y) n hb2)
  have HX := hide (And.intro hX (And.intro hY (And.intro h0 hYm)))
  clear ux uy hb0 hb2 hX hY h0 hYm
  go_enter Try.func56, Try.ntmps56
  go_wp2_with fail
  refine (unhide HUX _ h).mono ?_
  rintro e w1 ⟨rfl, b1⟩
  have h_1 := h.below b1
  have k_1 := h2.below b1
  go_wp2_with fail
  refine (unhide HUY _ k_1).mono ?_
  rintro e w2 ⟨rfl, b2⟩
  have h_2 := h_1.below b2
  have k_2 := k_1.below b2
  have B2 := below_then b1 (Nat.le_refl _) b2
  clear h_1 k_1 b1 b2
  go_wp2_with fail
  refine (unhide HBI _ (h_2.below (((Below.refl _ _).alloc (Nat.le_refl _) _).alloc (by simp) _))).mono ?_
  rintro e w3 ⟨rfl, b3⟩
  have B2' := (B2.alloc B2.size (.cells (arr (zs n)) 42)).alloc (by simp; have := B2.size; omega) (.cells #[] 42)
  have B3 := below_then B2' (Nat.le_refl _) b3
  have hQ : Blk w3 w2.heap.size (arr (zs n)) := ((Blk.new w2 (arr (zs n))).alloc _).below b3 (by simp; omega)
  have hGw := B2.size
  clear b3 B2' B2
  generalize w2.heap.size = G at *
  go_wp2_with fail
  go_loopw [12, 13] (fun rv iv wr => BdRel X Y n G G w rv iv wr) (fun _ iv _ => (intOf iv + 1).toNat)
  case atStart => exact ⟨b0, 0, _, 0, _, zs n, rfl, rfl, Rd.empty _ _ _, B3, hQ, hb1, HS.out⟩
  case round =>
    obtain ⟨j, r, R, L, c1, Qs, rfl, rfl, hR, hb, hbl, hj, HI⟩ := hrel
    rcases Nat.eq_zero_or_pos j with hj0 | hj0
    · subst hj0
      have hE := bd_end HI.out
      have hr := blk_rd0 (c := n) (n := n) hbl HI.out.2.1 HI.out.1 (by omega)
      have HM := hide (rmake_calls _ _ _ _ _ hr (by omega))
      rw [hE.1] at HM
      have HL := hide hR.len
      have HE := hide hE.2
      clear hE
      go_wp2_with fail
      refine (unhide HM).mono ?_
      rintro e w5 ⟨A5, c5, rfl, hr5, hb5⟩
      have hR5 := hR.below hb5
      go_wp2
      go_ret3
      exact ⟨A5, c5, R, c1, by rw [← HE.out, HL.out]; rfl, hr5, by rw [← HE.out, HL.out]; exact hR5, below_then hb (Nat.le_refl _) hb5⟩
    · obtain ⟨i, rfl⟩ : ∃ i, j = i + 1 := ⟨j - 1, by omega⟩
      have e : ((i + 1 : Nat) : Int) - 1 = i := by omega
      rw [e]
      clear e
      have hin : i / 32 < n := by omega
      obtain ⟨qq, hqq⟩ : ∃ qq, qq = i / 32 := ⟨_, rfl⟩
      obtain ⟨ss, hss⟩ : ∃ ss, ss = i % 32 := ⟨_, rfl⟩
      have hqi : (i : Int) / 32 = (qq : Int) := by omega
      have hsi : (i : Int) % 32 = (ss : Int) := by omega
      have hs31 : ss < 32 := by omega
      have hrY : r < Y := by rw [HI.out.2.2.1]; exact Nat.mod_lt _ HX.out.2.2.1
      have hLm : L ≤ m := by rw [← hR.len]; exact dg_le (Nat.lt_trans hrY HX.out.2.2.2)
      obtain ⟨b, off, hA, -, hc⟩ := (h.below hb).get (k := qq) (by omega)
      subst hA
      obtain ⟨bt, hbt⟩ : ∃ bt, bt = lim xs qq / 2 ^ ss % 2 := ⟨_, rfl⟩
      have hbt1 : bt < 2 := by omega
      have hbX : bt = X / 2 ^ i % 2 := by rw [hbt, hqq, hss, bit_of h.sm, HX.out.1]
      have hlx := h.sm.lim qq
      have HQ2 := hide (And.intro hqq (And.intro hss (And.intro hbt hbX)))
      clear hqq hss hbt hbX
      go_wp2_with fail
      refine (rshl1 R L c1 r _ hR (by omega)).mono ?_
      rintro e w5 ⟨A5, c5, rfl, hr5, hb5⟩
      have h_w := h.below hb
      have h_5 := h_w.below hb5
      obtain ⟨b', off', hA', -, hc5⟩ := h_5.get (k := qq) (by omega)
      injection hA' with hA'
      injection hA' with hA1 hA2
      subst hA1 hA2
      have hand : bits .and .u32 ((lim xs qq : Int) / 2 ^ ss) 1 = (bt : Int) := by
        have e1 : (lim xs qq : Int) / 2 ^ ss = ((lim xs qq / 2 ^ ss : Nat) : Int) := by simp
        rw [e1, HQ2.out.2.2.1]
        have := u32_and_nat (lim xs qq / 2 ^ ss) 1 (Nat.lt_of_le_of_lt (Nat.div_le_self _ _) hlx) (by omega)
        rw [Nat.and_one_is_mod] at this
        exact this
      have hbl5 := hbl.below hb5 hbl.lt
      have hB5 := below_then hb (Nat.le_refl _) hb5
      clear h_w
      go_wp2_with fail
      refine (radd_at _ _ _ _ _ _ _ _ _ (r * 2) bt (r * 2 + bt) (val_dg _) (by simp [val]) rfl (hr5.below ((Below.refl _ _).alloc (Nat.le_refl _) _)) (rd_one _ bt (by omega)) (Nat.le_trans (dg_le (k := m + 1) (by rw [pw]; have := HX.out.2.2.2; omega)) (by omega)) (by omega)).mono ?_
      rintro e w6 ⟨A6, c6, rfl, hr6, hb6⟩
      have hbl6 := (hbl5.alloc _).below hb6 (hbl5.alloc _).lt
      have hB6 := below_then (hB5.alloc hB5.size _) (Nat.le_refl _) hb6
      clear hb6 hr5 hb5 hbl5 hc5 hand h_5
      have hl6 : (dg (r * 2 + bt)).length ≤ m + 1 := dg_le (k := m + 1) (by rw [pw]; have := HX.out.2.2.2; omega)
      have k_6 := h2.below hB6
      by_cases hlt : r * 2 + bt < Y
      · obtain ⟨rr, hrr, hr0⟩ : ∃ rr, sg (val (dg (r * 2 + bt))) (val ys) = rr ∧ rr < 0 := ⟨_, rfl, by rw [val_dg, HX.out.2.1, sg_lt hlt]; omega⟩
        have HRR := hide hrr
        have HBD := hide (bd_low HX.out.2.2.1 HQ2.out.2.2.2 HI.out hlt)
        clear hrr hlt
        go_wp2_with fail
        refine (rcmp_at _ _ _ _ _ _ _ _ _ rr HRR.out hr6 k_6 (by omega) (by omega)).mono ?_
        rintro e w' ⟨rfl, rfl⟩
        go_wp2
        go_roundw
        case rel => exact ⟨i, r * 2 + bt, A6, _, c6, Qs, rfl, by go_num, hr6, hB6, hbl6, by omega, HBD⟩
        case measure => simp [intOf] <;> omega
      · obtain ⟨rr, hrr, hr0⟩ : ∃ rr, sg (val (dg (r * 2 + bt))) (val ys) = rr ∧ 0 ≤ rr := ⟨_, rfl, by rw [val_dg, HX.out.2.1]; unfold sg; rw [if_neg (by omega)]; split <;> omega⟩
        have HRR := hide hrr
        obtain ⟨hbd, hor, hvb⟩ := bd_high HX.out.2.2.1 HQ2.out.2.2.2 HI.out (by omega) hin
        rw [← HQ2.out.1, ← HQ2.out.2.1] at hbd hor hvb
        have hSub := rsub_new A6 B _ m c6 d _ ys w6 hr6 k_6 (by omega) (by omega) (by rw [val_dg, HX.out.2.1]; omega)
        rw [val_dg, HX.out.2.1] at hSub
        have HSB := hide hSub
        obtain ⟨v, hv⟩ : ∃ v, v = lim Qs qq + 2 ^ ss := ⟨_, rfl⟩
        rw [← hv] at hbd hor hvb
        have HBD := hide hbd
        have h2s : (2 : Nat) ^ ss < 4294967296 := by omega
        have HORP := hide (show bits .or .u32 (lim Qs qq : Int) (2 ^ ss % 4294967296) = (v : Int) by
          have e1 : (2 : Int) ^ ss = ((2 ^ ss : Nat) : Int) := by simp
          have e2 : ((2 ^ ss : Nat) : Int) % 4294967296 = ((2 ^ ss : Nat) : Int) := by
            generalize (2 ^ ss : Nat) = z at h2s
            omega
          rw [e1, e2, u32_or_nat _ _ (HI.out.2.1.lim qq) h2s, hor])
        clear h2s
        have hlq := HI.out.2.1.lim qq
        clear hrr hlt hbd hor hSub hv
        go_wp2_with fail
        refine (rcmp_at _ _ _ _ _ _ _ _ _ rr HRR.out hr6 k_6 (by omega) (by omega)).mono ?_
        rintro e w' ⟨rfl, rfl⟩
        go_wp2_with fail
        refine (unhide HSB).mono ?_
        rintro e w7 ⟨A7, c7, rfl, hr7, hb7, hfr⟩
        have hbl7 := hbl6.below hb7 hbl6.lt
        have hB7 := below_then hB6 (Nat.le_refl _) hb7
        have hcq : w7.cell? ⟨G, qq, none⟩ = some (.int .u32 (lim Qs qq : Nat)) := blk_cell hbl7 (by rw [HI.out.1]; omega)
        have hfq := hbl7.frozen qq
        go_wp2_with fail
        go_region
        go_wp2
        go_roundw
        case rel =>
          rw [HORP.out]
          exact ⟨i, r * 2 + bt - Y, A7, _, c7, Qs.set qq v, rfl, by go_num, (hr7.store hfr hbl6.lt _ _).below (below_drewN (Below.refl _ _) 1), below_drewN (hB7.setCell hGw _) 1, (blk_set hbl7 qq v).drewN 1, by omega, HBD⟩
        case measure => simp [intOf] <;> omega
set_option maxHeartbeats 1600000 in
theorem rdm_ff (h0 : 0 < val ys) (vx vy : Nat) (ux : u64Of xs = (vx, false)) (uy : u64Of ys = (vy, false)) (hvy : True) : Calls Try.prog 56 #[.slice A n c, .slice B m d] w (Gives3 w (dg (val xs / val ys)) (dg (val xs % val ys)) 0) := by
  obtain ⟨X, hX⟩ : ∃ X, val xs = X := ⟨_, rfl⟩
  obtain ⟨Y, hY⟩ : ∃ Y, val ys = Y := ⟨_, rfl⟩
  obtain ⟨b0, hb0, hb1, hb2⟩ : ∃ b0, nb xs = b0 ∧ b0 ≤ 32 * n ∧ X < 2 ^ b0 := by
    rw [← hX]
    have := nb_any h.sm
    rw [h.len] at this
    exact ⟨_, rfl, this.1, this.2⟩
  have hYm : Y < pw m := by rw [← hY]; exact rd_lt h2 (Nat.le_refl _)
  rw [hX, hY]
  rw [hY] at h0
  have hmk := fun W => run_mk 22 (.inl rfl) n (n : Int) rfl (by omega) W
  have HUX := hide (fun W (k : Rd W A n c xs) => ruint_calls A n c xs W vx false ux k (by omega))
  have HUY := hide (fun W (k : Rd W B m d ys) => ruint_calls B m d ys W vy false uy k (by omega))
  have HBI := hide (fun W (k : Rd W A n c xs) => rbits_calls A n c xs W b0 hb0 k (by omega))
  have HS := hide (bd_start (Y := Y) n hb2)
  have HX := hide (And.intro hX (And.intro hY (And.intro h0 hYm)))
  clear ux uy hb0 hb2 hX hY h0 hYm
  go_enter Try.func56, Try.ntmps56
  go_wp2_with fail
  refine (unhide HUX _ h).mono ?_
  rintro e w1 ⟨rfl, b1⟩
  have h_1 := h.below b1
  have k_1 := h2.below b1
  go_wp2_with fail
  refine (unhide HUY _ k_1).mono ?_
  rintro e w2 ⟨rfl, b2⟩
  have h_2 := h_1.below b2
  have k_2 := k_1.below b2
  have B2 := below_then b1 (Nat.le_refl _) b2
  clear h_1 k_1 b1 b2
  go_wp2_with fail
  refine (unhide HBI _ (h_2.below (((Below.refl _ _).alloc (Nat.le_refl _) _).alloc (by simp) _))).mono ?_
  rintro e w3 ⟨rfl, b3⟩
  have B2' := (B2.alloc B2.size (.cells (arr (zs n)) 42)).alloc (by simp; have := B2.size; omega) (.cells #[] 42)
  have B3 := below_then B2' (Nat.le_refl _) b3
  have hQ : Blk w3 w2.heap.size (arr (zs n)) := ((Blk.new w2 (arr (zs n))).alloc _).below b3 (by simp; omega)
  have hGw := B2.size
  clear b3 B2' B2
  generalize w2.heap.size = G at *
  go_wp2_with fail
  go_loopw [12, 13] (fun rv iv wr => BdRel X Y n G G w rv iv wr) (fun _ iv _ => (intOf iv + 1).toNat)
  case atStart => exact ⟨b0, 0, _, 0, _, zs n, rfl, rfl, Rd.empty _ _ _, B3, hQ, hb1, HS.out⟩
  case round =>
    obtain ⟨j, r, R, L, c1, Qs, rfl, rfl, hR, hb, hbl, hj, HI⟩ := hrel
    rcases Nat.eq_zero_or_pos j with hj0 | hj0
    · subst hj0
      have hE := bd_end HI.out
      have hr := blk_rd0 (c := n) (n := n) hbl HI.out.2.1 HI.out.1 (by omega)
      have HM := hide (rmake_calls _ _ _ _ _ hr (by omega))
      rw [hE.1] at HM
      have HL := hide hR.len
      have HE := hide hE.2
      clear hE
      go_wp2_with fail
      refine (unhide HM).mono ?_
      rintro e w5 ⟨A5, c5, rfl, hr5, hb5⟩
      have hR5 := hR.below hb5
      go_wp2
      go_ret3
      exact ⟨A5, c5, R, c1, by rw [← HE.out, HL.out]; rfl, hr5, by rw [← HE.out, HL.out]; exact hR5, below_then hb (Nat.le_refl _) hb5⟩
    · obtain ⟨i, rfl⟩ : ∃ i, j = i + 1 := ⟨j - 1, by omega⟩
      have e : ((i + 1 : Nat) : Int) - 1 = i := by omega
      rw [e]
      clear e
      have hin : i / 32 < n := by omega
      obtain ⟨qq, hqq⟩ : ∃ qq, qq = i / 32 := ⟨_, rfl⟩
      obtain ⟨ss, hss⟩ : ∃ ss, ss = i % 32 := ⟨_, rfl⟩
      have hqi : (i : Int) / 32 = (qq : Int) := by omega
      have hsi : (i : Int) % 32 = (ss : Int) := by omega
      have hs31 : ss < 32 := by omega
      have hrY : r < Y := by rw [HI.out.2.2.1]; exact Nat.mod_lt _ HX.out.2.2.1
      have hLm : L ≤ m := by rw [← hR.len]; exact dg_le (Nat.lt_trans hrY HX.out.2.2.2)
      obtain ⟨b, off, hA, -, hc⟩ := (h.below hb).get (k := qq) (by omega)
      subst hA
      obtain ⟨bt, hbt⟩ : ∃ bt, bt = lim xs qq / 2 ^ ss % 2 := ⟨_, rfl⟩
      have hbt1 : bt < 2 := by omega
      have hbX : bt = X / 2 ^ i % 2 := by rw [hbt, hqq, hss, bit_of h.sm, HX.out.1]
      have hlx := h.sm.lim qq
      have HQ2 := hide (And.intro hqq (And.intro hss (And.intro hbt hbX)))
      clear hqq hss hbt hbX
      go_wp2_with fail
      refine (rshl1 R L c1 r _ hR (by omega)).mono ?_
      rintro e w5 ⟨A5, c5, rfl, hr5, hb5⟩
      have h_w := h.below hb
      have h_5 := h_w.below hb5
      obtain ⟨b', off', hA', -, hc5⟩ := h_5.get (k := qq) (by omega)
      injection hA' with hA'
      injection hA' with hA1 hA2
      subst hA1 hA2
      have hand : bits .and .u32 ((lim xs qq : Int) / 2 ^ ss) 1 = (bt : Int) := by
        have e1 : (lim xs qq : Int) / 2 ^ ss = ((lim xs qq / 2 ^ ss : Nat) : Int) := by simp
        rw [e1, HQ2.out.2.2.1]
        have := u32_and_nat (lim xs qq / 2 ^ ss) 1 (Nat.lt_of_le_of_lt (Nat.div_le_self _ _) hlx) (by omega)
        rw [Nat.and_one_is_mod] at this
        exact this
      have hbl5 := hbl.below hb5 hbl.lt
      have hB5 := below_then hb (Nat.le_refl _) hb5
      clear h_w
      go_wp2_with fail
      refine (radd_at _ _ _ _ _ _ _ _ _ (r * 2) bt (r * 2 + bt) (val_dg _) (by simp [val]) rfl (hr5.below ((Below.refl _ _).alloc (Nat.le_refl _) _)) (rd_one _ bt (by omega)) (Nat.le_trans (dg_le (k := m + 1) (by rw [pw]; have := HX.out.2.2.2; omega)) (by omega)) (by omega)).mono ?_
      rintro e w6 ⟨A6, c6, rfl, hr6, hb6⟩
      have hbl6 := (hbl5.alloc _).below hb6 (hbl5.alloc _).lt
      have hB6 := below_then (hB5.alloc hB5.size _) (Nat.le_refl _) hb6
      clear hb6 hr5 hb5 hbl5 hc5 hand h_5
      have hl6 : (dg (r * 2 + bt)).length ≤ m + 1 := dg_le (k := m + 1) (by rw [pw]; have := HX.out.2.2.2; omega)
      have k_6 := h2.below hB6
      by_cases hlt : r * 2 + bt < Y
      · obtain ⟨rr, hrr, hr0⟩ : ∃ rr, sg (val (dg (r * 2 + bt))) (val ys) = rr ∧ rr < 0 := ⟨_, rfl, by rw [val_dg, HX.out.2.1, sg_lt hlt]; omega⟩
        have HRR := hide hrr
        have HBD := hide (bd_low HX.out.2.2.1 HQ2.out.2.2.2 HI.out hlt)
        clear hrr hlt
        go_wp2_with fail
        refine (rcmp_at _ _ _ _ _ _ _ _ _ rr HRR.out hr6 k_6 (by omega) (by omega)).mono ?_
        rintro e w' ⟨rfl, rfl⟩
        go_wp2
        go_roundw
        case rel => exact ⟨i, r * 2 + bt, A6, _, c6, Qs, rfl, by go_num, hr6, hB6, hbl6, by omega, HBD⟩
        case measure => simp [intOf] <;> omega
      · obtain ⟨rr, hrr, hr0⟩ : ∃ rr, sg (val (dg (r * 2 + bt))) (val ys) = rr ∧ 0 ≤ rr := ⟨_, rfl, by rw [val_dg, HX.out.2.1]; unfold sg; rw [if_neg (by omega)]; split <;> omega⟩
        have HRR := hide hrr
        obtain ⟨hbd, hor, hvb⟩ := bd_high HX.out.2.2.1 HQ2.out.2.2.2 HI.out (by omega) hin
        rw [← HQ2.out.1, ← HQ2.out.2.1] at hbd hor hvb
        have hSub := rsub_new A6 B _ m c6 d _ ys w6 hr6 k_6 (by omega) (by omega) (by rw [val_dg, HX.out.2.1]; omega)
        rw [val_dg, HX.out.2.1] at hSub
        have HSB := hide hSub
        obtain ⟨v, hv⟩ : ∃ v, v = lim Qs qq + 2 ^ ss := ⟨_, rfl⟩
        rw [← hv] at hbd hor hvb
        have HBD := hide hbd
        have h2s : (2 : Nat) ^ ss < 4294967296 := by omega
        have HORP := hide (show bits .or .u32 (lim Qs qq : Int) (2 ^ ss % 4294967296) = (v : Int) by
          have e1 : (2 : Int) ^ ss = ((2 ^ ss : Nat) : Int) := by simp
          have e2 : ((2 ^ ss : Nat) : Int) % 4294967296 = ((2 ^ ss : Nat) : Int) := by
            generalize (2 ^ ss : Nat) = z at h2s
            omega
          rw [e1, e2, u32_or_nat _ _ (HI.out.2.1.lim qq) h2s, hor])
        clear h2s
        have hlq := HI.out.2.1.lim qq
        clear hrr hlt hbd hor hSub hv
        go_wp2_with fail
        refine (rcmp_at _ _ _ _ _ _ _ _ _ rr HRR.out hr6 k_6 (by omega) (by omega)).mono ?_
        rintro e w' ⟨rfl, rfl⟩
        go_wp2_with fail
        refine (unhide HSB).mono ?_
        rintro e w7 ⟨A7, c7, rfl, hr7, hb7, hfr⟩
        have hbl7 := hbl6.below hb7 hbl6.lt
        have hB7 := below_then hB6 (Nat.le_refl _) hb7
        have hcq : w7.cell? ⟨G, qq, none⟩ = some (.int .u32 (lim Qs qq : Nat)) := blk_cell hbl7 (by rw [HI.out.1]; omega)
        have hfq := hbl7.frozen qq
        go_wp2_with fail
        go_region
        go_wp2
        go_roundw
        case rel =>
          rw [HORP.out]
          exact ⟨i, r * 2 + bt - Y, A7, _, c7, Qs.set qq v, rfl, by go_num, (hr7.store hfr hbl6.lt _ _).below (below_drewN (Below.refl _ _) 1), below_drewN (hB7.setCell hGw _) 1, (blk_set hbl7 qq v).drewN 1, by omega, HBD⟩
        case measure => simp [intOf] <;> omega
set_option maxHeartbeats 1600000 in
theorem rdm_tf (h0 : 0 < val ys) (vx vy : Nat) (ux : u64Of xs = (vx, true)) (uy : u64Of ys = (vy, false)) (hvy : True) : Calls Try.prog 56 #[.slice A n c, .slice B m d] w (Gives3 w (dg (val xs / val ys)) (dg (val xs % val ys)) 0) := by
  obtain ⟨X, hX⟩ : ∃ X, val xs = X := ⟨_, rfl⟩
  obtain ⟨Y, hY⟩ : ∃ Y, val ys = Y := ⟨_, rfl⟩
  obtain ⟨b0, hb0, hb1, hb2⟩ : ∃ b0, nb xs = b0 ∧ b0 ≤ 32 * n ∧ X < 2 ^ b0 := by
    rw [← hX]
    have := nb_any h.sm
    rw [h.len] at this
    exact ⟨_, rfl, this.1, this.2⟩
  have hYm : Y < pw m := by rw [← hY]; exact rd_lt h2 (Nat.le_refl _)
  rw [hX, hY]
  rw [hY] at h0
  have hmk := fun W => run_mk 22 (.inl rfl) n (n : Int) rfl (by omega) W
  have HUX := hide (fun W (k : Rd W A n c xs) => ruint_calls A n c xs W vx true ux k (by omega))
  have HUY := hide (fun W (k : Rd W B m d ys) => ruint_calls B m d ys W vy false uy k (by omega))
  have HBI := hide (fun W (k : Rd W A n c xs) => rbits_calls A n c xs W b0 hb0 k (by omega))
  have HS := hide (bd_start (Y := Y) n hb2)
  have HX := hide (And.intro hX (And.intro hY (And.intro h0 hYm)))
  clear ux uy hb0 hb2 hX hY h0 hYm
  go_enter Try.func56, Try.ntmps56
  go_wp2_with fail
  refine (unhide HUX _ h).mono ?_
  rintro e w1 ⟨rfl, b1⟩
  have h_1 := h.below b1
  have k_1 := h2.below b1
  go_wp2_with fail
  refine (unhide HUY _ k_1).mono ?_
  rintro e w2 ⟨rfl, b2⟩
  have h_2 := h_1.below b2
  have k_2 := k_1.below b2
  have B2 := below_then b1 (Nat.le_refl _) b2
  clear h_1 k_1 b1 b2
  go_wp2_with fail
  refine (unhide HBI _ (h_2.below (((Below.refl _ _).alloc (Nat.le_refl _) _).alloc (by simp) _))).mono ?_
  rintro e w3 ⟨rfl, b3⟩
  have B2' := (B2.alloc B2.size (.cells (arr (zs n)) 42)).alloc (by simp; have := B2.size; omega) (.cells #[] 42)
  have B3 := below_then B2' (Nat.le_refl _) b3
  have hQ : Blk w3 w2.heap.size (arr (zs n)) := ((Blk.new w2 (arr (zs n))).alloc _).below b3 (by simp; omega)
  have hGw := B2.size
  clear b3 B2' B2
  generalize w2.heap.size = G at *
  go_wp2_with fail
  go_loopw [12, 13] (fun rv iv wr => BdRel X Y n G G w rv iv wr) (fun _ iv _ => (intOf iv + 1).toNat)
  case atStart => exact ⟨b0, 0, _, 0, _, zs n, rfl, rfl, Rd.empty _ _ _, B3, hQ, hb1, HS.out⟩
  case round =>
    obtain ⟨j, r, R, L, c1, Qs, rfl, rfl, hR, hb, hbl, hj, HI⟩ := hrel
    rcases Nat.eq_zero_or_pos j with hj0 | hj0
    · subst hj0
      have hE := bd_end HI.out
      have hr := blk_rd0 (c := n) (n := n) hbl HI.out.2.1 HI.out.1 (by omega)
      have HM := hide (rmake_calls _ _ _ _ _ hr (by omega))
      rw [hE.1] at HM
      have HL := hide hR.len
      have HE := hide hE.2
      clear hE
      go_wp2_with fail
      refine (unhide HM).mono ?_
      rintro e w5 ⟨A5, c5, rfl, hr5, hb5⟩
      have hR5 := hR.below hb5
      go_wp2
      go_ret3
      exact ⟨A5, c5, R, c1, by rw [← HE.out, HL.out]; rfl, hr5, by rw [← HE.out, HL.out]; exact hR5, below_then hb (Nat.le_refl _) hb5⟩
    · obtain ⟨i, rfl⟩ : ∃ i, j = i + 1 := ⟨j - 1, by omega⟩
      have e : ((i + 1 : Nat) : Int) - 1 = i := by omega
      rw [e]
      clear e
      have hin : i / 32 < n := by omega
      obtain ⟨qq, hqq⟩ : ∃ qq, qq = i / 32 := ⟨_, rfl⟩
      obtain ⟨ss, hss⟩ : ∃ ss, ss = i % 32 := ⟨_, rfl⟩
      have hqi : (i : Int) / 32 = (qq : Int) := by omega
      have hsi : (i : Int) % 32 = (ss : Int) := by omega
      have hs31 : ss < 32 := by omega
      have hrY : r < Y := by rw [HI.out.2.2.1]; exact Nat.mod_lt _ HX.out.2.2.1
      have hLm : L ≤ m := by rw [← hR.len]; exact dg_le (Nat.lt_trans hrY HX.out.2.2.2)
      obtain ⟨b, off, hA, -, hc⟩ := (h.below hb).get (k := qq) (by omega)
      subst hA
      obtain ⟨bt, hbt⟩ : ∃ bt, bt = lim xs qq / 2 ^ ss % 2 := ⟨_, rfl⟩
      have hbt1 : bt < 2 := by omega
      have hbX : bt = X / 2 ^ i % 2 := by rw [hbt, hqq, hss, bit_of h.sm, HX.out.1]
      have hlx := h.sm.lim qq
      have HQ2 := hide (And.intro hqq (And.intro hss (And.intro hbt hbX)))
      clear hqq hss hbt hbX
      go_wp2_with fail
      refine (rshl1 R L c1 r _ hR (by omega)).mono ?_
      rintro e w5 ⟨A5, c5, rfl, hr5, hb5⟩
      have h_w := h.below hb
      have h_5 := h_w.below hb5
      obtain ⟨b', off', hA', -, hc5⟩ := h_5.get (k := qq) (by omega)
      injection hA' with hA'
      injection hA' with hA1 hA2
      subst hA1 hA2
      have hand : bits .and .u32 ((lim xs qq : Int) / 2 ^ ss) 1 = (bt : Int) := by
        have e1 : (lim xs qq : Int) / 2 ^ ss = ((lim xs qq / 2 ^ ss : Nat) : Int) := by simp
        rw [e1, HQ2.out.2.2.1]
        have := u32_and_nat (lim xs qq / 2 ^ ss) 1 (Nat.lt_of_le_of_lt (Nat.div_le_self _ _) hlx) (by omega)
        rw [Nat.and_one_is_mod] at this
        exact this
      have hbl5 := hbl.below hb5 hbl.lt
      have hB5 := below_then hb (Nat.le_refl _) hb5
      clear h_w
      go_wp2_with fail
      refine (radd_at _ _ _ _ _ _ _ _ _ (r * 2) bt (r * 2 + bt) (val_dg _) (by simp [val]) rfl (hr5.below ((Below.refl _ _).alloc (Nat.le_refl _) _)) (rd_one _ bt (by omega)) (Nat.le_trans (dg_le (k := m + 1) (by rw [pw]; have := HX.out.2.2.2; omega)) (by omega)) (by omega)).mono ?_
      rintro e w6 ⟨A6, c6, rfl, hr6, hb6⟩
      have hbl6 := (hbl5.alloc _).below hb6 (hbl5.alloc _).lt
      have hB6 := below_then (hB5.alloc hB5.size _) (Nat.le_refl _) hb6
      clear hb6 hr5 hb5 hbl5 hc5 hand h_5
      have hl6 : (dg (r * 2 + bt)).length ≤ m + 1 := dg_le (k := m + 1) (by rw [pw]; have := HX.out.2.2.2; omega)
      have k_6 := h2.below hB6
      by_cases hlt : r * 2 + bt < Y
      · obtain ⟨rr, hrr, hr0⟩ : ∃ rr, sg (val (dg (r * 2 + bt))) (val ys) = rr ∧ rr < 0 := ⟨_, rfl, by rw [val_dg, HX.out.2.1, sg_lt hlt]; omega⟩
        have HRR := hide hrr
        have HBD := hide (bd_low HX.out.2.2.1 HQ2.out.2.2.2 HI.out hlt)
        clear hrr hlt
        go_wp2_with fail
        refine (rcmp_at _ _ _ _ _ _ _ _ _ rr HRR.out hr6 k_6 (by omega) (by omega)).mono ?_
        rintro e w' ⟨rfl, rfl⟩
        go_wp2
        go_roundw
        case rel => exact ⟨i, r * 2 + bt, A6, _, c6, Qs, rfl, by go_num, hr6, hB6, hbl6, by omega, HBD⟩
        case measure => simp [intOf] <;> omega
      · obtain ⟨rr, hrr, hr0⟩ : ∃ rr, sg (val (dg (r * 2 + bt))) (val ys) = rr ∧ 0 ≤ rr := ⟨_, rfl, by rw [val_dg, HX.out.2.1]; unfold sg; rw [if_neg (by omega)]; split <;> omega⟩
        have HRR := hide hrr
        obtain ⟨hbd, hor, hvb⟩ := bd_high HX.out.2.2.1 HQ2.out.2.2.2 HI.out (by omega) hin
        rw [← HQ2.out.1, ← HQ2.out.2.1] at hbd hor hvb
        have hSub := rsub_new A6 B _ m c6 d _ ys w6 hr6 k_6 (by omega) (by omega) (by rw [val_dg, HX.out.2.1]; omega)
        rw [val_dg, HX.out.2.1] at hSub
        have HSB := hide hSub
        obtain ⟨v, hv⟩ : ∃ v, v = lim Qs qq + 2 ^ ss := ⟨_, rfl⟩
        rw [← hv] at hbd hor hvb
        have HBD := hide hbd
        have h2s : (2 : Nat) ^ ss < 4294967296 := by omega
        have HORP := hide (show bits .or .u32 (lim Qs qq : Int) (2 ^ ss % 4294967296) = (v : Int) by
          have e1 : (2 : Int) ^ ss = ((2 ^ ss : Nat) : Int) := by simp
          have e2 : ((2 ^ ss : Nat) : Int) % 4294967296 = ((2 ^ ss : Nat) : Int) := by
            generalize (2 ^ ss : Nat) = z at h2s
            omega
          rw [e1, e2, u32_or_nat _ _ (HI.out.2.1.lim qq) h2s, hor])
        clear h2s
        have hlq := HI.out.2.1.lim qq
        clear hrr hlt hbd hor hSub hv
        go_wp2_with fail
        refine (rcmp_at _ _ _ _ _ _ _ _ _ rr HRR.out hr6 k_6 (by omega) (by omega)).mono ?_
        rintro e w' ⟨rfl, rfl⟩
        go_wp2_with fail
        refine (unhide HSB).mono ?_
        rintro e w7 ⟨A7, c7, rfl, hr7, hb7, hfr⟩
        have hbl7 := hbl6.below hb7 hbl6.lt
        have hB7 := below_then hB6 (Nat.le_refl _) hb7
        have hcq : w7.cell? ⟨G, qq, none⟩ = some (.int .u32 (lim Qs qq : Nat)) := blk_cell hbl7 (by rw [HI.out.1]; omega)
        have hfq := hbl7.frozen qq
        go_wp2_with fail
        go_region
        go_wp2
        go_roundw
        case rel =>
          rw [HORP.out]
          exact ⟨i, r * 2 + bt - Y, A7, _, c7, Qs.set qq v, rfl, by go_num, (hr7.store hfr hbl6.lt _ _).below (below_drewN (Below.refl _ _) 1), below_drewN (hB7.setCell hGw _) 1, (blk_set hbl7 qq v).drewN 1, by omega, HBD⟩
        case measure => simp [intOf] <;> omega
theorem rdm_small (h0 : 0 < val ys) (hx2 : tlen xs ≤ 2) (hy2 : tlen ys ≤ 2) : Calls Try.prog 56 #[.slice A n c, .slice B m d] w (Gives3 w (dg (val xs / val ys)) (dg (val xs % val ys)) 0) := by
  have ux : u64Of xs = (val xs, true) := if_pos hx2
  have uy : u64Of ys = (val ys, true) := if_pos hy2
  have hX := u64_two (h.sm.take (tlen xs)) (by rw [List.length_take]; omega)
  rw [val_trim h.sm] at hX
  generalize val xs = X at *
  generalize val ys = Y at *
  have hY0 : ((Y : Int) == 0) = false := by simp; omega
  have hq1 : X / Y ≤ 18446744073709551615 := Nat.le_trans (Nat.div_le_self _ _) hX
  have HQ := hide (show IntKind.u64.wrap ((X : Int) / (Y : Int)) = ((X / Y : Nat) : Int) by
    have e : (X : Int) / (Y : Int) = ((X / Y : Nat) : Int) := by simp
    rw [e]
    generalize X / Y = Z at hq1 ⊢
    exact IntWalk.u64_in _ ⟨by omega, by omega⟩)
  have HQ' := hide (show (X : Int) / (Y : Int) = ((X / Y : Nat) : Int) by simp)
  have HR' := hide (show (X : Int) % (Y : Int) = ((X % Y : Nat) : Int) by simp)
  have HR := hide (show (X : Int).tmod (Y : Int) = ((X % Y : Nat) : Int) by
    rw [Int.tmod_eq_emod_of_nonneg (by omega)]; simp)
  have hq2 : X % Y ≤ 18446744073709551615 := Nat.le_trans (Nat.mod_le _ _) hX
  have H1 := hide hq1
  have H2 := hide hq2
  have HUX := hide (fun W (k : Rd W A n c xs) => ruint_calls A n c xs W X true ux k (by omega))
  have HUY := hide (fun W (k : Rd W B m d ys) => ruint_calls B m d ys W Y true uy k (by omega))
  clear hq1 hq2 ux uy hx2 hy2
  go_enter Try.func56, Try.ntmps56
  go_wp2_with fail
  refine (unhide HUX _ h).mono ?_
  rintro e w1 ⟨rfl, b1⟩
  have k_1 := h2.below b1
  go_wp2_with fail
  refine (unhide HUY _ k_1).mono ?_
  rintro e w2 ⟨rfl, b2⟩
  have B2 := below_then b1 (Nat.le_refl _) b2
  clear b1 b2 k_1 h h2 HUX HUY
  go_wp2_with fail
  go_region_with (first
      | (go_at_call 24; (with_reducible refine (rof_int (IntKind.u64.wrap ((X : Int) / (Y : Int))) (X / Y) _ HQ.out H1.out).mono ?_); rintro e w1 ⟨A4, c4, rfl, hr4, hb4⟩)
      | (go_at_call 24; (with_reducible refine (rof_int ((X : Int).tmod (Y : Int)) (X % Y) _ HR.out H2.out).mono ?_); rintro e w2 ⟨A5, c5, rfl, hr5, hb5⟩)
      | (go_at_call 24; (with_reducible refine (rof_int ((X : Int) / (Y : Int)) (X / Y) _ HQ'.out H1.out).mono ?_); rintro e w1 ⟨A4, c4, rfl, hr4, hb4⟩)
      | (go_at_call 24; (with_reducible refine (rof_int ((X : Int) % (Y : Int)) (X % Y) _ HR'.out H2.out).mono ?_); rintro e w2 ⟨A5, c5, rfl, hr5, hb5⟩))
  all_goals go_wp2
  all_goals go_ret3
  all_goals exact ⟨A4, c4, A5, c5, rfl, hr4.below hb5, hr5, below_then (below_then (B2.drew) (Nat.le_refl _) hb4) (Nat.le_refl _) hb5⟩
theorem rdivmod_calls (h0 : 0 < val ys) : Calls Try.prog 56 #[.slice A n c, .slice B m d] w (Gives3 w (dg (val xs / val ys)) (dg (val xs % val ys)) 0) := by
  by_cases hx : tlen xs ≤ 2
  · by_cases hy : tlen ys ≤ 2
    · exact rdm_small A B n m c d xs ys w h h2 hn hm h0 hx hy
    · exact rdm_tf A B n m c d xs ys w h h2 hn hm h0 _ _ (if_pos hx) (if_neg hy) trivial
  · by_cases hy : tlen ys ≤ 2
    · exact rdm_ft A B n m c d xs ys w h h2 hn hm h0 _ _ (if_neg hx) (if_pos hy) (by simp; omega)
    · exact rdm_ff A B n m c d xs ys w h h2 hn hm h0 _ _ (if_neg hx) (if_neg hy) trivial
end
end Go.Proofs.Ytllbncipadjjgaa
