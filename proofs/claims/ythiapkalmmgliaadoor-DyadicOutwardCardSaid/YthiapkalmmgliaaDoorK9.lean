/-
  The dyadic number that is equal to a rational number.
-/
import Derived.Test.YthiapkalmmgliaaDoorK8
namespace Go.Proofs.YthiapkalmmgliaaDoor
open Go.RowKit
set_option linter.unusedVariables false
set_option linter.unusedSimpArgs false

theorem bl_uniq {x b : Nat} (h1 : x < 2 ^ b) (h2 : 1 ≤ b) (h3 : 2 ^ (b - 1) ≤ x) : bl x = b := by
  have h4 := bl_iff.2 h1
  rcases Nat.lt_or_eq_of_le h4 with h | h
  · have := bl_iff.1 (show bl x ≤ b - 1 by omega)
    omega
  · exact h
theorem nb_bl {xs : List Nat} (hs : Sm xs) : nb xs = bl (val xs) := by
  by_cases h0 : val xs = 0
  · rw [(nb_zero hs).2 h0, h0]
    rfl
  · have ht : tlen xs ≠ 0 := fun h => h0 (tlen_zero_iff.1 h)
    have htop := tlen_top ht
    have hsm := hs.lim (tlen xs - 1)
    have hup := (nb_any hs).2
    have hnb : nb xs = 32 * (tlen xs - 1) + Lib.bitLen (lim xs (tlen xs - 1)) := by unfold nb; rw [if_neg ht]
    obtain ⟨h1, h2, h3⟩ := Lib.bitLenAux_bounds 64 (lim xs (tlen xs - 1)) (by omega) htop
    have h1' : 1 ≤ Lib.bitLen (lim xs (tlen xs - 1)) := h1
    have h2' : 2 ^ (Lib.bitLen (lim xs (tlen xs - 1)) - 1) ≤ lim xs (tlen xs - 1) := h2
    clear h1 h2 h3
    refine (bl_uniq hup (by omega) ?_).symm
    rw [hnb]
    rw [show 32 * (tlen xs - 1) + Lib.bitLen (lim xs (tlen xs - 1)) - 1 = 32 * (tlen xs - 1) + (Lib.bitLen (lim xs (tlen xs - 1)) - 1) by omega, Nat.pow_add, ← pw_pow]
    have e := pv_succ xs (tlen xs - 1)
    rw [show tlen xs - 1 + 1 = tlen xs by omega] at e
    have e2 : pv xs (tlen xs) = val xs := by
      have : pv xs (tlen xs) = val (xs.take (tlen xs)) := rfl
      rw [this, val_trim hs]
    have hm := Nat.mul_le_mul_left (pw (tlen xs - 1)) h2'
    omega
theorem rbits_bl (A : Option Addr) (n c : Nat) (xs : List Nat) (w : World) (X r : Nat) (hX : val xs = X) (hr : bl X = r) (h : Rd w A n c xs) (hn : n ≤ 1048576) : Calls Tryd.prog 29 #[.slice A n c] w (Asks w (.int .i64 (r : Int))) :=
  rbits_calls A n c xs w r (by rw [nb_bl h.sm, hX, hr]) h hn
theorem de_bd {q : Rat} {k : Nat} (h : Qs k q) : -(32 * k : Int) ≤ de q ∧ de q ≤ 32 * k := by
  obtain ⟨h1, h2⟩ := h
  rw [pw_pow] at h1 h2
  have h3 : q.den.log2 < 32 * k := (Nat.log2_lt q.den_nz).2 h2
  have h4 : tw q.num.natAbs ≤ 32 * k := by
    by_cases h0 : q.num.natAbs = 0
    · rw [h0, tw_zero]; exact Nat.zero_le _
    · exact Nat.le_of_lt (tw_lt h1 h0)
  unfold de
  omega
theorem dvl_den1 {q : Rat} (h : q.den = 1) : dvl (decide (q.num < 0)) (val (dg q.num.natAbs)) 0 = q := by
  have e : Isd q := by unfold Isd; rw [h]; rfl
  unfold dvl
  rw [p2_zero, Rat.mul_one, val_dg]
  have e1 : (if decide (q.num < 0) = true then -(q.num.natAbs : Int) else (q.num.natAbs : Int)) = q.num := by
    split <;> rename_i h0 <;> rw [decide_eq_true_eq] at h0 <;> omega
  rw [e1]
  exact Rat.ext rfl h.symm
theorem dvl_den {q : Rat} (h : Isd q) : dvl (decide (q.num < 0)) (val (dg q.num.natAbs)) (-(q.den.log2 : Int)) = q := by
  unfold dvl
  rw [val_dg]
  have e1 : (if decide (q.num < 0) = true then -(q.num.natAbs : Int) else (q.num.natAbs : Int)) = q.num := by
    split <;> rename_i h0 <;> rw [decide_eq_true_eq] at h0 <;> omega
  rw [e1, int_p2, ← h, Rat.mkRat_self]
theorem ryexact_1 (s : Bool) (A : Option Addr) (n c : Nat) (B : Option Addr) (m d : Nat) (q : Rat) (w : World) (h : Iq w s A n c B m d q) (hn : n ≤ 8000) (hm : m ≤ 8000) (h1 : q.den = 1) :
    Calls Tryd.prog 13 #[.agg #[.bool s, .slice A n c, .slice B m d]] w (GDB w q true) := by
  have hs := h.size hn hm (by omega)
  have HD := hide (de_bd hs)
  have HQ := hide (dvl_den1 h1)
  have H0 := hide (show qd q = [] by unfold qd; rw [if_pos h1])
  have HS := hide hs
  clear h1 hs
  have h_1 := h.alloc (EQ s A n c B m d)
  have ba_1 : Sq ((w).alloc (EQ s A n c B m d)) (w.heap.size) (.bool s) (.slice A n c) (.slice B m d) := by have h_ := Sq.new (w) (.bool s) (.slice A n c) (.slice B m d); exact h_
  have F1 := (Below.refl w.heap.size w).alloc (Nat.le_refl _) (EQ s A n c B m d)
  have h_2 := h_1.alloc EY0
  have ba_2 := ba_1.alloc EY0
  have br_2 : Sy (((w).alloc (EQ s A n c B m d)).alloc EY0) (w.heap.size + 1) (.bool false) (.slice none 0 0) (.int .i64 0) := by have h_ := Sy.new ((w).alloc (EQ s A n c B m d)) (.bool false) (.slice none 0 0) (.int .i64 0); simp only [World.size_alloc] at h_; exact h_
  have F2 := F1.alloc F1.size EY0
  go_enter Tryd.func13, Tryd.ntmps13
  have ba_u2 := ba_2.cell0
  have ba_v2 := ba_2.cell1
  have ba_w2 := ba_2.cell2
  have br_u2 := br_2.cell0
  have br_v2 := br_2.cell1
  have br_w2 := br_2.cell2
  go_wp2_with fail
  refine (rcanon_q _ _ _ _ _ _ _ _ _ h_2 (by omega) (by omega)).mono ?_
  rintro e w3 ⟨s3, A3, n3, c3, B3, m3, d3, rfl, x, b3⟩
  have h_3 := h_2.below b3
  have ba_3 := ba_2.below b3 ba_2.lt
  have br_3 := br_2.below b3 br_2.lt
  have F3 := below_then F2 (Nat.le_refl _) b3
  have ba_u3 := ba_3.cell0
  have ba_v3 := ba_3.cell1
  have ba_w3 := ba_3.cell2
  have br_u3 := br_3.cell0
  have br_v3 := br_3.cell1
  have br_w3 := br_3.cell2
  have hm0 : m3 = 0 := by have := x.2.1.len; rw [H0.out] at this; exact this.symm
  have hn1 : n3 ≤ 8000 := x.ln HS.out.1
  have hs1 : s3 = decide (q.num < 0) := x.2.2
  subst hm0 hs1
  have ba_f03 := ba_3.frozen 0
  have ba_f13 := ba_3.frozen 1
  have ba_f23 := ba_3.frozen 2
  have x_4 := x.storQ ba_3 (.bool (decide (q.num < 0))) (.slice A3 n3 c3) (.slice B3 0 d3)
  have br_4 := br_3.past (g' := w.heap.size) (u0 := .bool (decide (q.num < 0))) (u1 := .slice A3 n3 c3) (u2 := .slice B3 0 d3) (by omega)
  have ba_4 := ba_3.stor (u0 := .bool (decide (q.num < 0))) (u1 := .slice A3 n3 c3) (u2 := .slice B3 0 d3)
  have F4 := below_storQ (u0 := .bool (decide (q.num < 0))) (u1 := .slice A3 n3 c3) (u2 := .slice B3 0 d3) F3 (show w.heap.size ≤ w.heap.size by omega)
  have ba_u4 := ba_4.cell0
  have ba_v4 := ba_4.cell1
  have ba_w4 := ba_4.cell2
  have br_u4 := br_4.cell0
  have br_v4 := br_4.cell1
  have br_w4 := br_4.cell2
  go_wp2_with fail
  refine (rcan_q (decide (q.num < 0)) _ _ _ _ 0 q _ x_4.rn (by omega) HQ.out (by omega) (by have := HD.out; omega)).mono ?_
  rintro e w5 ⟨s5, A5, n5, c5, x5, rfl, y, b5⟩
  have x_5 := x_4.below b5
  have ba_5 := ba_4.below b5 ba_4.lt
  have br_5 := br_4.below b5 br_4.lt
  have F5 := below_then F4 (Nat.le_refl _) b5
  have ba_u5 := ba_5.cell0
  have ba_v5 := ba_5.cell1
  have ba_w5 := ba_5.cell2
  have br_u5 := br_5.cell0
  have br_v5 := br_5.cell1
  have br_w5 := br_5.cell2
  have br_f05 := br_5.frozen 0
  have br_f15 := br_5.frozen 1
  have br_f25 := br_5.frozen 2
  go_wp2_with fail
  refine bodyPost_ret (v := .tuple #[.agg #[.bool s5, .slice A5 n5 c5, .int .i64 x5], .bool true]) (by simp [results, Tryd.results13, go_sem, (br_5.set0 (.bool s5)).cell0, ((br_5.set0 (.bool s5)).set1 (.slice A5 n5 c5)).cell1, (((br_5.set0 (.bool s5)).set1 (.slice A5 n5 c5)).set2 (.int .i64 x5)).cell2]) rfl (gdb_end true F5 (by omega) br_5 y)
theorem rcan_z (s : Bool) (A : Option Addr) (n c : Nat) (xs : List Nat) (z e : Int) (q : Rat) (w : World) (hz : z = e) (h : Rd w A n c xs) (hn : n ≤ 1000000) (hq : dvl s (val xs) e = q) (he : -1000000000 ≤ e ∧ e ≤ 1000000000) (hr : -1048576 ≤ de q ∧ de q ≤ 1048576) :
    Calls Tryd.prog 46 #[.bool s, .slice A n c, .int .i64 z] w (GDB w q true) := hz ▸ rcan_q s A n c xs e q w h hn hq he hr
theorem qd_two {q : Rat} {K : Nat} (hK : q.den.log2 = K) (h1 : q.den ≠ 1) : dg (2 ^ K) = qd q ↔ Isd q := by
  refine ⟨fun h => ?_, fun h => ?_⟩
  · unfold qd at h
    rw [if_neg h1] at h
    have := congrArg val h
    rw [val_dg, val_dg] at this
    unfold Isd
    rw [hK, this]
  · unfold qd
    rw [if_neg h1, ← hK, ← h]
theorem ryexact_y (s : Bool) (A : Option Addr) (n c : Nat) (B : Option Addr) (m d : Nat) (q : Rat) (w : World) (h : Iq w s A n c B m d q) (hn : n ≤ 8000) (hm : m ≤ 8000) (h1 : q.den ≠ 1) (hi : Isd q) :
    Calls Tryd.prog 13 #[.agg #[.bool s, .slice A n c, .slice B m d]] w (GDB w q true) := by
  have hs := h.size hn hm (by omega)
  obtain ⟨K, hK⟩ : ∃ K, q.den.log2 = K := ⟨_, rfl⟩
  have hK2 : K < 256000 := by
    have h2 := hs.2
    rw [pw_pow] at h2
    have := (Nat.log2_lt q.den_nz).2 h2
    omega
  have hb : bl q.den = K + 1 := by unfold bl; rw [if_neg q.den_nz, hK]
  have HB := hide hb
  have HD := hide (de_bd hs)
  have H0 := hide (show qd q = dg q.den by unfold qd; rw [if_neg h1])
  have HE := hide (show decide (dg (2 ^ K) = qd q) = true by simpa [qd_two hK h1] using hi)
  have HS := hide hs
  obtain ⟨L, hL⟩ : ∃ L, (dg (2 ^ K)).length = L := ⟨_, rfl⟩
  have hLk : L ≤ 8001 := by rw [← hL]; have := shl_len (X := 1) (n := 1) (j := 8000) (k := K) (by decide) (by omega); rw [Nat.one_mul] at this; omega
  have HL := hide hL
  have HQ := hide (show dvl (decide (q.num < 0)) (val (dg q.num.natAbs)) (-(K : Int)) = q by rw [← hK]; exact dvl_den hi)
  clear h1 hs hK hb hi hL
  have h_1 := h.alloc (EQ s A n c B m d)
  have ba_1 : Sq ((w).alloc (EQ s A n c B m d)) (w.heap.size) (.bool s) (.slice A n c) (.slice B m d) := by have h_ := Sq.new (w) (.bool s) (.slice A n c) (.slice B m d); exact h_
  have F1 := (Below.refl w.heap.size w).alloc (Nat.le_refl _) (EQ s A n c B m d)
  have h_2 := h_1.alloc EY0
  have ba_2 := ba_1.alloc EY0
  have br_2 : Sy (((w).alloc (EQ s A n c B m d)).alloc EY0) (w.heap.size + 1) (.bool false) (.slice none 0 0) (.int .i64 0) := by have h_ := Sy.new ((w).alloc (EQ s A n c B m d)) (.bool false) (.slice none 0 0) (.int .i64 0); simp only [World.size_alloc] at h_; exact h_
  have F2 := F1.alloc F1.size EY0
  go_enter Tryd.func13, Tryd.ntmps13
  have ba_u2 := ba_2.cell0
  have ba_v2 := ba_2.cell1
  have ba_w2 := ba_2.cell2
  have br_u2 := br_2.cell0
  have br_v2 := br_2.cell1
  have br_w2 := br_2.cell2
  go_wp2_with fail
  refine (rcanon_q _ _ _ _ _ _ _ _ _ h_2 (by omega) (by omega)).mono ?_
  rintro e w3 ⟨s3, A3, n3, c3, B3, m3, d3, rfl, x, b3⟩
  have h_3 := h_2.below b3
  have ba_3 := ba_2.below b3 ba_2.lt
  have br_3 := br_2.below b3 br_2.lt
  have F3 := below_then F2 (Nat.le_refl _) b3
  have ba_u3 := ba_3.cell0
  have ba_v3 := ba_3.cell1
  have ba_w3 := ba_3.cell2
  have br_u3 := br_3.cell0
  have br_v3 := br_3.cell1
  have br_w3 := br_3.cell2
  have hn1 : n3 ≤ 8000 := x.ln HS.out.1
  have hm1 : m3 ≤ 8000 := x.ld HS.out.2
  have hs1 : s3 = decide (q.num < 0) := x.2.2
  have hm0 : m3 ≠ 0 := fun hh => by have h5 := x.2.1.len; rw [H0.out, hh] at h5; exact q.den_nz (dg_nil_iff.1 (List.eq_nil_of_length_eq_zero h5))
  have e0 : (((m3 : Nat) : Int) == 0) = false := by simp [hm0]
  subst hs1
  have ba_f03 := ba_3.frozen 0
  have ba_f13 := ba_3.frozen 1
  have ba_f23 := ba_3.frozen 2
  have x_4 := x.storQ ba_3 (.bool (decide (q.num < 0))) (.slice A3 n3 c3) (.slice B3 m3 d3)
  have br_4 := br_3.past (g' := w.heap.size) (u0 := .bool (decide (q.num < 0))) (u1 := .slice A3 n3 c3) (u2 := .slice B3 m3 d3) (by omega)
  have ba_4 := ba_3.stor (u0 := .bool (decide (q.num < 0))) (u1 := .slice A3 n3 c3) (u2 := .slice B3 m3 d3)
  have F4 := below_storQ (u0 := .bool (decide (q.num < 0))) (u1 := .slice A3 n3 c3) (u2 := .slice B3 m3 d3) F3 (show w.heap.size ≤ w.heap.size by omega)
  have ba_u4 := ba_4.cell0
  have ba_v4 := ba_4.cell1
  have ba_w4 := ba_4.cell2
  have br_u4 := br_4.cell0
  have br_v4 := br_4.cell1
  have br_w4 := br_4.cell2
  go_wp2_with fail
  refine (rbits_bl _ _ _ _ _ q.den (K + 1) (by rw [H0.out, val_dg]) HB.out x_4.2.1 (by omega)).mono ?_
  rintro e w5 ⟨rfl, b5⟩
  have x_5 := x_4.below b5
  have ba_5 := ba_4.below b5 ba_4.lt
  have br_5 := br_4.below b5 br_4.lt
  have F5 := below_then F4 (Nat.le_refl _) b5
  have ba_u5 := ba_5.cell0
  have ba_v5 := ba_5.cell1
  have ba_w5 := ba_5.cell2
  have br_u5 := br_5.cell0
  have br_v5 := br_5.cell1
  have br_w5 := br_5.cell2
  have x_6 := x_5.alloc (.cells #[.int .u32 1] 47)
  have ba_6 := ba_5.alloc (.cells #[.int .u32 1] 47)
  have br_6 := br_5.alloc (.cells #[.int .u32 1] 47)
  have F6 := F5.alloc F5.size (.cells #[.int .u32 1] 47)
  have one := rd_one (w5) 1 (by omega)
  have ba_u6 := ba_6.cell0
  have ba_v6 := ba_6.cell1
  have ba_w6 := ba_6.cell2
  have br_u6 := br_6.cell0
  have br_v6 := br_6.cell1
  have br_w6 := br_6.cell2
  go_wp2_with fail
  refine (rShl_L _ _ _ _ _ K _ L _ (by omega) (by simp [val]) HL.out one (by omega) (by omega)).mono ?_
  rintro e w7 ⟨A7, c7, rfl, pt, b7⟩
  have x_7 := x_6.below b7
  have one_7 := one.below b7
  have ba_7 := ba_6.below b7 ba_6.lt
  have br_7 := br_6.below b7 br_6.lt
  have F7 := below_then F6 (Nat.le_refl _) b7
  have ba_u7 := ba_7.cell0
  have ba_v7 := ba_7.cell1
  have ba_w7 := ba_7.cell2
  have br_u7 := br_7.cell0
  have br_v7 := br_7.cell1
  have br_w7 := br_7.cell2
  go_wp2_with fail
  refine (rsame_ask _ _ _ _ _ _ _ _ _ _ HE.out pt x_7.2.1 (by omega) (by omega)).mono ?_
  rintro e w8 ⟨rfl, b8⟩
  have x_8 := x_7.below b8
  have pt_8 := pt.below b8
  have ba_8 := ba_7.below b8 ba_7.lt
  have br_8 := br_7.below b8 br_7.lt
  have F8 := below_then F7 (Nat.le_refl _) b8
  have ba_u8 := ba_8.cell0
  have ba_v8 := ba_8.cell1
  have ba_w8 := ba_8.cell2
  have br_u8 := br_8.cell0
  have br_v8 := br_8.cell1
  have br_w8 := br_8.cell2
  go_wp2_with fail
  refine (rcan_z (decide (q.num < 0)) _ _ _ _ _ (-(K : Int)) q _ (by omega) x_8.rn (by omega) HQ.out (by omega) (by have := HD.out; omega)).mono ?_
  rintro e w9 ⟨s9, A9, n9, c9, x9, rfl, y, b9⟩
  have x_9 := x_8.below b9
  have pt_9 := pt_8.below b9
  have ba_9 := ba_8.below b9 ba_8.lt
  have br_9 := br_8.below b9 br_8.lt
  have F9 := below_then F8 (Nat.le_refl _) b9
  have ba_u9 := ba_9.cell0
  have ba_v9 := ba_9.cell1
  have ba_w9 := ba_9.cell2
  have br_u9 := br_9.cell0
  have br_v9 := br_9.cell1
  have br_w9 := br_9.cell2
  have br_f09 := br_9.frozen 0
  have br_f19 := br_9.frozen 1
  have br_f29 := br_9.frozen 2
  go_wp2_with fail
  refine bodyPost_ret (v := .tuple #[.agg #[.bool s9, .slice A9 n9 c9, .int .i64 x9], .bool true]) (by simp [results, Tryd.results13, go_sem, (br_9.set0 (.bool s9)).cell0, ((br_9.set0 (.bool s9)).set1 (.slice A9 n9 c9)).cell1, (((br_9.set0 (.bool s9)).set1 (.slice A9 n9 c9)).set2 (.int .i64 x9)).cell2]) rfl (gdb_end true F9 (by omega) br_9 y)
theorem ryexact_n (s : Bool) (A : Option Addr) (n c : Nat) (B : Option Addr) (m d : Nat) (q : Rat) (w : World) (h : Iq w s A n c B m d q) (hn : n ≤ 8000) (hm : m ≤ 8000) (h1 : q.den ≠ 1) (hi : ¬ Isd q) :
    Calls Tryd.prog 13 #[.agg #[.bool s, .slice A n c, .slice B m d]] w (GDB w 0 false) := by
  have hs := h.size hn hm (by omega)
  obtain ⟨K, hK⟩ : ∃ K, q.den.log2 = K := ⟨_, rfl⟩
  have hK2 : K < 256000 := by
    have h2 := hs.2
    rw [pw_pow] at h2
    have := (Nat.log2_lt q.den_nz).2 h2
    omega
  have hb : bl q.den = K + 1 := by unfold bl; rw [if_neg q.den_nz, hK]
  have HB := hide hb
  have HD := hide (de_bd hs)
  have H0 := hide (show qd q = dg q.den by unfold qd; rw [if_neg h1])
  have HE := hide (show decide (dg (2 ^ K) = qd q) = false by simpa [qd_two hK h1] using hi)
  have HS := hide hs
  obtain ⟨L, hL⟩ : ∃ L, (dg (2 ^ K)).length = L := ⟨_, rfl⟩
  have hLk : L ≤ 8001 := by rw [← hL]; have := shl_len (X := 1) (n := 1) (j := 8000) (k := K) (by decide) (by omega); rw [Nat.one_mul] at this; omega
  have HL := hide hL
  clear h1 hs hK hb hi hL
  have h_1 := h.alloc (EQ s A n c B m d)
  have ba_1 : Sq ((w).alloc (EQ s A n c B m d)) (w.heap.size) (.bool s) (.slice A n c) (.slice B m d) := by have h_ := Sq.new (w) (.bool s) (.slice A n c) (.slice B m d); exact h_
  have F1 := (Below.refl w.heap.size w).alloc (Nat.le_refl _) (EQ s A n c B m d)
  have h_2 := h_1.alloc EY0
  have ba_2 := ba_1.alloc EY0
  have br_2 : Sy (((w).alloc (EQ s A n c B m d)).alloc EY0) (w.heap.size + 1) (.bool false) (.slice none 0 0) (.int .i64 0) := by have h_ := Sy.new ((w).alloc (EQ s A n c B m d)) (.bool false) (.slice none 0 0) (.int .i64 0); simp only [World.size_alloc] at h_; exact h_
  have F2 := F1.alloc F1.size EY0
  go_enter Tryd.func13, Tryd.ntmps13
  have ba_u2 := ba_2.cell0
  have ba_v2 := ba_2.cell1
  have ba_w2 := ba_2.cell2
  have br_u2 := br_2.cell0
  have br_v2 := br_2.cell1
  have br_w2 := br_2.cell2
  go_wp2_with fail
  refine (rcanon_q _ _ _ _ _ _ _ _ _ h_2 (by omega) (by omega)).mono ?_
  rintro e w3 ⟨s3, A3, n3, c3, B3, m3, d3, rfl, x, b3⟩
  have h_3 := h_2.below b3
  have ba_3 := ba_2.below b3 ba_2.lt
  have br_3 := br_2.below b3 br_2.lt
  have F3 := below_then F2 (Nat.le_refl _) b3
  have ba_u3 := ba_3.cell0
  have ba_v3 := ba_3.cell1
  have ba_w3 := ba_3.cell2
  have br_u3 := br_3.cell0
  have br_v3 := br_3.cell1
  have br_w3 := br_3.cell2
  have hn1 : n3 ≤ 8000 := x.ln HS.out.1
  have hm1 : m3 ≤ 8000 := x.ld HS.out.2
  have hs1 : s3 = decide (q.num < 0) := x.2.2
  have hm0 : m3 ≠ 0 := fun hh => by have h5 := x.2.1.len; rw [H0.out, hh] at h5; exact q.den_nz (dg_nil_iff.1 (List.eq_nil_of_length_eq_zero h5))
  have e0 : (((m3 : Nat) : Int) == 0) = false := by simp [hm0]
  subst hs1
  have ba_f03 := ba_3.frozen 0
  have ba_f13 := ba_3.frozen 1
  have ba_f23 := ba_3.frozen 2
  have x_4 := x.storQ ba_3 (.bool (decide (q.num < 0))) (.slice A3 n3 c3) (.slice B3 m3 d3)
  have br_4 := br_3.past (g' := w.heap.size) (u0 := .bool (decide (q.num < 0))) (u1 := .slice A3 n3 c3) (u2 := .slice B3 m3 d3) (by omega)
  have ba_4 := ba_3.stor (u0 := .bool (decide (q.num < 0))) (u1 := .slice A3 n3 c3) (u2 := .slice B3 m3 d3)
  have F4 := below_storQ (u0 := .bool (decide (q.num < 0))) (u1 := .slice A3 n3 c3) (u2 := .slice B3 m3 d3) F3 (show w.heap.size ≤ w.heap.size by omega)
  have ba_u4 := ba_4.cell0
  have ba_v4 := ba_4.cell1
  have ba_w4 := ba_4.cell2
  have br_u4 := br_4.cell0
  have br_v4 := br_4.cell1
  have br_w4 := br_4.cell2
  go_wp2_with fail
  refine (rbits_bl _ _ _ _ _ q.den (K + 1) (by rw [H0.out, val_dg]) HB.out x_4.2.1 (by omega)).mono ?_
  rintro e w5 ⟨rfl, b5⟩
  have x_5 := x_4.below b5
  have ba_5 := ba_4.below b5 ba_4.lt
  have br_5 := br_4.below b5 br_4.lt
  have F5 := below_then F4 (Nat.le_refl _) b5
  have ba_u5 := ba_5.cell0
  have ba_v5 := ba_5.cell1
  have ba_w5 := ba_5.cell2
  have br_u5 := br_5.cell0
  have br_v5 := br_5.cell1
  have br_w5 := br_5.cell2
  have x_6 := x_5.alloc (.cells #[.int .u32 1] 47)
  have ba_6 := ba_5.alloc (.cells #[.int .u32 1] 47)
  have br_6 := br_5.alloc (.cells #[.int .u32 1] 47)
  have F6 := F5.alloc F5.size (.cells #[.int .u32 1] 47)
  have one := rd_one (w5) 1 (by omega)
  have ba_u6 := ba_6.cell0
  have ba_v6 := ba_6.cell1
  have ba_w6 := ba_6.cell2
  have br_u6 := br_6.cell0
  have br_v6 := br_6.cell1
  have br_w6 := br_6.cell2
  go_wp2_with fail
  refine (rShl_L _ _ _ _ _ K _ L _ (by omega) (by simp [val]) HL.out one (by omega) (by omega)).mono ?_
  rintro e w7 ⟨A7, c7, rfl, pt, b7⟩
  have x_7 := x_6.below b7
  have one_7 := one.below b7
  have ba_7 := ba_6.below b7 ba_6.lt
  have br_7 := br_6.below b7 br_6.lt
  have F7 := below_then F6 (Nat.le_refl _) b7
  have ba_u7 := ba_7.cell0
  have ba_v7 := ba_7.cell1
  have ba_w7 := ba_7.cell2
  have br_u7 := br_7.cell0
  have br_v7 := br_7.cell1
  have br_w7 := br_7.cell2
  go_wp2_with fail
  refine (rsame_ask _ _ _ _ _ _ _ _ _ _ HE.out pt x_7.2.1 (by omega) (by omega)).mono ?_
  rintro e w8 ⟨rfl, b8⟩
  have x_8 := x_7.below b8
  have pt_8 := pt.below b8
  have ba_8 := ba_7.below b8 ba_7.lt
  have br_8 := br_7.below b8 br_7.lt
  have F8 := below_then F7 (Nat.le_refl _) b8
  have ba_u8 := ba_8.cell0
  have ba_v8 := ba_8.cell1
  have ba_w8 := ba_8.cell2
  have br_u8 := br_8.cell0
  have br_v8 := br_8.cell1
  have br_w8 := br_8.cell2
  have br_f08 := br_8.frozen 0
  have br_f18 := br_8.frozen 1
  have br_f28 := br_8.frozen 2
  go_wp2_with fail
  refine bodyPost_ret (v := .tuple #[.agg #[.bool false, .slice none 0 0, .int .i64 0], .bool false]) (by simp [results, Tryd.results13, go_sem, (br_8.set0 (.bool false)).cell0, ((br_8.set0 (.bool false)).set1 (.slice none 0 0)).cell1, (((br_8.set0 (.bool false)).set1 (.slice none 0 0)).set2 (.int .i64 0)).cell2]) rfl (gdb_end false F8 (by omega) br_8 (cy_zero _))
theorem ryexact (s : Bool) (A : Option Addr) (n c : Nat) (B : Option Addr) (m d : Nat) (q : Rat) (w : World) (h : Iq w s A n c B m d q) (hn : n ≤ 8000) (hm : m ≤ 8000) (hi : Isd q) :
    Calls Tryd.prog 13 #[.agg #[.bool s, .slice A n c, .slice B m d]] w (GDB w q true) := by
  by_cases h1 : q.den = 1
  · exact ryexact_1 s A n c B m d q w h hn hm h1
  · exact ryexact_y s A n c B m d q w h hn hm h1 hi
theorem ryexact_not (s : Bool) (A : Option Addr) (n c : Nat) (B : Option Addr) (m d : Nat) (q : Rat) (w : World) (h : Iq w s A n c B m d q) (hn : n ≤ 8000) (hm : m ≤ 8000) (hi : ¬ Isd q) :
    Calls Tryd.prog 13 #[.agg #[.bool s, .slice A n c, .slice B m d]] w (GDB w 0 false) :=
  ryexact_n s A n c B m d q w h hn hm (fun h1 => hi (by unfold Isd; rw [h1]; rfl)) hi
end Go.Proofs.YthiapkalmmgliaaDoor
