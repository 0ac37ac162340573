/-
  The walk of DyadicOutward.
-/
import Derived.Test.YthiapkalmmgliaaDoorY6
import Derived.Test.YthiapkalmmgliaaDoorY0
namespace Go.Proofs.YthiapkalmmgliaaDoor
open Go.RowKit
set_option linter.unusedVariables false
set_option linter.unusedSimpArgs false

theorem iq_abs {w : World} {s : Bool} {A B : Option Addr} {n c m d : Nat} {q : Rat} (h : Iq w s A n c B m d q) : Iq w false A n c B m d (qab q) := by
  obtain ⟨xs, ys, h1, h2, h3⟩ := h
  exact ⟨xs, ys, h1, h2, by rw [← h3]; exact qab_rv s xs ys⟩
theorem iq_pow {w : World} {A : Option Addr} {n c j : Nat} (h : Rd w A n c (dg (1 * 2 ^ j))) : Iq w false A n c none 0 0 ((2 ^ j : Nat) : Rat) := by
  have h1 := iq_whole w false A n c 1 j h
  rw [dvl_f, p2_nat] at h1
  have e : (((1 : Nat) : Int) : Rat) * ((2 ^ j : Nat) : Rat) = ((2 ^ j : Nat) : Rat) := Rat.one_mul _
  rwa [e] at h1
theorem qab_qs {q : Rat} {k : Nat} (h : Qs k q) : Qs k (qab q) := by
  unfold qab
  rw [← Rat.intCast_natCast, ← Rat.mkRat_eq_div]
  have h1 := mk_size (q.num.natAbs : Int) q.den q.den_nz
  have h2 := h.1
  have h3 := h.2
  exact ⟨by omega, by omega⟩
theorem pow_qs (j : Nat) (h : j < 128) : Qs 4 ((2 ^ j : Nat) : Rat) := by
  have h1 : 2 ^ j < pw 4 := two_lt_pw (by omega)
  exact ⟨by rw [Rat.num_natCast]; simpa using h1, by rw [Rat.den_natCast]; decide⟩
set_option maxRecDepth 50000 in
set_option maxHeartbeats 8000000 in
theorem do_no (s : Bool) (A : Option Addr) (n c : Nat) (B : Option Addr) (m d : Nat) (o : Int) (q : Rat) (w : World) (ho : 0 ≤ o ∧ o < 256) (h : Iq w s A n c B m d q) (hh : ¬ (n ≤ 3 ∧ m ≤ 3)) (T : Tb w) : Calls Tryd.prog 6 #[.agg #[.bool s, .slice A n c, .slice B m d], .int .u8 o] w (fun e w' => e = .returned (.bool true) ∧ Below w.heap.size w w') := by
  have ho1 : 0 ≤ o := ho.1
  have ho2 : o < 256 := ho.2
  obtain ⟨K, hK⟩ : ∃ K : Nat, o % 100 + 1 = (K : Int) := ⟨(o % 100 + 1).toNat, by omega⟩
  have hK1 : 1 ≤ K ∧ K ≤ 100 := by omega
  have w1 : IntKind.u8.wrap (o.tmod 100) = o % 100 := by rw [Int.tmod_eq_emod_of_nonneg ho.1]; (first | go_num | (simp [IntKind.wrap, IntKind.bits, IntKind.signed]; omega))
  have w2 : IntKind.i64.wrap (o % 100) = o % 100 := by (first | go_num | (simp [IntKind.wrap, IntKind.bits, IntKind.signed]; omega))
  have w3 : IntKind.i64.wrap (o % 100 + 1) = o % 100 + 1 := by (first | go_num | (simp [IntKind.wrap, IntKind.bits, IntKind.signed]; omega))
  have HN := hide hh
  clear h hh
  have T_1 := T.alloc (EQ s A n c B m d)
  have bx_1 : Sq ((w).alloc (EQ s A n c B m d)) (w.heap.size) (.bool s) (.slice A n c) (.slice B m d) := by have h_ := Sq.new (w) (.bool s) (.slice A n c) (.slice B m d); exact h_
  have F1 := (Below.refl w.heap.size w).alloc (Nat.le_refl _) (EQ s A n c B m d)
  go_enter Tryd.func6, Tryd.ntmps6
  go_wp2_with fail
  refine (awake5 _ T_1).mono ?_
  rintro e w2 ⟨rfl, b2⟩
  have T_2 := T_1.below b2
  have bx_2 := bx_1.below b2 bx_1.lt
  have F2 := below_then F1 (Nat.le_refl _) b2
  have bx_u2 := bx_2.cell0
  have bx_v2 := bx_2.cell1
  have bx_w2 := bx_2.cell2
  go_wp2_with fail
  refine (few_no _ _ _ _ _ _ _ _ HN.out).mono ?_
  rintro e w3 ⟨rfl, b3⟩
  have T_3 := T_2.below b3
  have bx_3 := bx_2.below b3 bx_2.lt
  have F3 := below_then F2 (Nat.le_refl _) b3
  have bx_u3 := bx_3.cell0
  have bx_v3 := bx_3.cell1
  have bx_w3 := bx_3.cell2
  go_wp2
  go_ret
  exact ⟨rfl, F3⟩
set_option maxRecDepth 50000 in
set_option maxHeartbeats 8000000 in
theorem do_dy (s : Bool) (A : Option Addr) (n c : Nat) (B : Option Addr) (m d : Nat) (o : Int) (q : Rat) (w : World) (ho : 0 ≤ o ∧ o < 256) (h : Iq w s A n c B m d q) (hn : n ≤ 3) (hm : m ≤ 3) (hi : Isd q) (T : Tb w) : Calls Tryd.prog 6 #[.agg #[.bool s, .slice A n c, .slice B m d], .int .u8 o] w (fun e w' => e = .returned (.bool true) ∧ Below w.heap.size w w') := by
  have ho1 : 0 ≤ o := ho.1
  have ho2 : o < 256 := ho.2
  obtain ⟨K, hK⟩ : ∃ K : Nat, o % 100 + 1 = (K : Int) := ⟨(o % 100 + 1).toNat, by omega⟩
  have hK1 : 1 ≤ K ∧ K ≤ 100 := by omega
  have w1 : IntKind.u8.wrap (o.tmod 100) = o % 100 := by rw [Int.tmod_eq_emod_of_nonneg ho.1]; (first | go_num | (simp [IntKind.wrap, IntKind.bits, IntKind.signed]; omega))
  have w2 : IntKind.i64.wrap (o % 100) = o % 100 := by (first | go_num | (simp [IntKind.wrap, IntKind.bits, IntKind.signed]; omega))
  have w3 : IntKind.i64.wrap (o % 100 + 1) = o % 100 + 1 := by (first | go_num | (simp [IntKind.wrap, IntKind.bits, IntKind.signed]; omega))
  have hs : Qs 3 q := h.size hn hm (by omega)
  have Tu := tq_qs false hs hK1.1 (by omega)
  have Tv := tq_qs true hs hK1.1 (by omega)
  have Du := tq_de (k := K) false hK1.1 hs
  have Dv := tq_de (k := K) true hK1.1 hs
  have Iu : Isd (tq q K false) := (dk_iff.1 (tq_dn q hK1.1).1).1
  have Iv : Isd (tq q K true) := (dk_iff.1 (tq_up q hK1.1).1).1
  have Su : Qs 14 (tq q K false) := qs_dy Iu Tu.2.1 (by decide) (by omega)
  have Sv : Qs 14 (tq q K true) := qs_dy Iv Tv.2.1 (by decide) (by omega)
  have Lu := tq_dm (q := q) (k := K) false hK1.1
  have Lv := tq_dm (q := q) (k := K) true hK1.1
  have Cu := le_sz (tq_dn q hK1.1).2.1
  have Cv := le_sz (tq_up q hK1.1).2.1
  have Ew := le_sz (width q hK1.1)
  obtain ⟨Eu, Ev⟩ := out_eq q hK1.1
  have Xu := sz_eq0 (a := tq q K false) (b := q)
  have Xv := sz_eq0 (a := tq q K true) (b := q)
  obtain ⟨u, hu⟩ : ∃ u, tq q K false = u := ⟨_, rfl⟩
  obtain ⟨v, hv⟩ : ∃ u, tq q K true = u := ⟨_, rfl⟩
  rw [hu] at Tu Du Iu Su Lu Cu Eu Xu Ew
  rw [hv] at Tv Dv Iv Sv Lv Cv Ev Xv Ew
  obtain ⟨ru, hru⟩ : ∃ r, bl (dm u) = r := ⟨_, rfl⟩
  obtain ⟨rv_, hrv⟩ : ∃ r, bl (dm v) = r := ⟨_, rfl⟩
  obtain ⟨rq, hrq⟩ : ∃ r, bl (dm q) = r := ⟨_, rfl⟩
  obtain ⟨r1, h1⟩ : ∃ r, sz (u - q).num = r := ⟨_, rfl⟩
  obtain ⟨r2, h2⟩ : ∃ r, sz (q - v).num = r := ⟨_, rfl⟩
  obtain ⟨r3, h3⟩ : ∃ r, sz (v - q).num = r := ⟨_, rfl⟩
  obtain ⟨J, hJ⟩ : ∃ J, K - 1 = J := ⟨_, rfl⟩
  rw [hJ] at Ew
  obtain ⟨r5, h5⟩ : ∃ r, sz ((v - u) * ((2 ^ J : Nat) : Rat) - qab q).num = r := ⟨_, rfl⟩
  rw [hru] at Lu
  rw [hrv] at Lv
  rw [hrq] at Eu Ev
  rw [h1] at Cu Xu
  rw [h2] at Cv
  rw [h3] at Xv
  rw [h5] at Ew
  have f1 : decide (o % 100 + 1 < (ru : Int)) = false := decide_eq_false (by omega)
  have f2 : decide (o % 100 + 1 < (rv_ : Int)) = false := decide_eq_false (by omega)
  have f3 : decide (0 < r1) = false := by rw [decide_eq_true_eq] at Cu; exact decide_eq_false (by omega)
  have f4 : decide (0 < r2) = false := by rw [decide_eq_true_eq] at Cv; exact decide_eq_false (by omega)
  have w5 : IntKind.i64.wrap (o % 100 + 1 - 1) = (J : Int) := by (first | (rw [show o % 100 + 1 - 1 = (J : Int) by omega]; (first | go_num | (simp [IntKind.wrap, IntKind.bits, IntKind.signed]; omega))))
  obtain ⟨E, hE⟩ : ∃ E : Bool, decide (u = q) = E := ⟨_, rfl⟩
  have g1 : (r1 == 0) = E := by rw [← hE, ← Xu]; rfl
  have g2 : decide ((rq : Int) ≤ o % 100 + 1) = E := by
    rw [← hE]
    exact decide_eq_decide.2 ⟨fun hh => Eu.2 ⟨hi, by omega⟩, fun hh => by have := (Eu.1 hh).2; omega⟩
  have g3 : (r3 == 0) = E := by
    rw [← hE, show (r3 == 0) = decide (r3 = 0) from rfl, Xv]
    exact decide_eq_decide.2 ⟨fun hh => Eu.2 (Ev.1 hh), fun hh => Ev.2 (Eu.1 hh)⟩
  have g4 : (E != E) = false := by simp
  clear hE
  have SD_ := size_sub Sv Su
  have SP := size_mul SD_ (pow_qs J (by omega))
  have SA_ := qab_qs hs
  have a1 : u.num.natAbs < pw 14 := Su.1
  have a2 : u.den < pw 14 := Su.2
  have a3 : v.num.natAbs < pw 14 := Sv.1
  have a4 : v.den < pw 14 := Sv.2
  have a5 : (v - u).num.natAbs < pw 29 := SD_.1
  have a6 : (v - u).den < pw 29 := SD_.2
  have a7 : ((v - u) * ((2 ^ J : Nat) : Rat)).num.natAbs < pw 33 := SP.1
  have a8 : ((v - u) * ((2 ^ J : Nat) : Rat)).den < pw 33 := SP.2
  have a9 : (qab q).num.natAbs < pw 3 := SA_.1
  have a10 : (qab q).den < pw 3 := SA_.2
  have mu : dm u < pw 7 := Tu.2.1
  have mv : dm v < pw 7 := Tv.2.1
  have mq : dm q < pw 3 := Nat.lt_of_le_of_lt (odp_le _) hs.1
  obtain ⟨L, hL⟩ : ∃ L, (dg (1 * 2 ^ J)).length = L := ⟨_, rfl⟩
  have lL : L ≤ 4 := by rw [← hL]; exact dg_le (by rw [Nat.one_mul]; exact two_lt_pw (by omega))
  have HU := hide hu
  have HV := hide hv
  have HK := hide hK
  have HKK := hide (show 1 ≤ K ∧ K ≤ 200 by omega)
  have HRU := hide hru
  have HRV := hide hrv
  have HRQ := hide hrq
  have H1 := hide h1
  have H2 := hide h2
  have H3 := hide h3
  have H5 := hide h5
  have HL := hide hL
  have HI := hide hi
  have HDu := hide (show -256000 < de u ∧ de u < 256000 by omega)
  have HDv := hide (show -256000 < de v ∧ de v < 256000 by omega)
  have HDu2 := hide (show -1048576 ≤ de u ∧ de u ≤ 1048576 by omega)
  have HDv2 := hide (show -1048576 ≤ de v ∧ de v ≤ 1048576 by omega)
  have HJ := hide (show J ≤ 1048576 by omega)
  have HZJ := hide (show o % 100 = (J : Int) by omega)
  have HX1 := hide (show val [1] * 2 ^ J = 1 * 2 ^ J by simp [val])
  have qn4 : n ≤ 4000 := by omega
  have qm4 : m ≤ 4000 := by omega
  have qn8 : n ≤ 8000 := by omega
  have qm8 : m ≤ 8000 := by omega
  have qn16 : n ≤ 16384 := by omega
  have qm16 : m ≤ 16384 := by omega
  have p7 : 7 ≤ 8000 := by decide
  have p71 : 7 ≤ 1048576 := by decide
  have p3 : 3 ≤ 1048576 := by decide
  have p14 : 14 ≤ 4000 := by decide
  have p29 : 29 ≤ 4000 := by decide
  have p33 : 33 ≤ 4000 := by decide
  have p34 : 3 ≤ 4000 := by decide
  have p4 : L ≤ 4000 := by omega
  have p0 : 0 ≤ 4000 := by decide
  clear Tu Tv Du Dv Iu Iv Su Sv Lu Lv Cu Cv Eu Ev Xu Xv SD_ SP SA_ hu hv hK hru hrv hrq h1 h2 h3 h5 hL hi hs ho hK1 hJ lL
  have h_1 := h.alloc (EQ s A n c B m d)
  have T_1 := T.alloc (EQ s A n c B m d)
  have bx_1 : Sq ((w).alloc (EQ s A n c B m d)) (w.heap.size) (.bool s) (.slice A n c) (.slice B m d) := by have h_ := Sq.new (w) (.bool s) (.slice A n c) (.slice B m d); exact h_
  have F1 := (Below.refl w.heap.size w).alloc (Nat.le_refl _) (EQ s A n c B m d)
  go_enter Tryd.func6, Tryd.ntmps6
  go_wp2_with fail
  refine (awake5 _ T_1).mono ?_
  rintro e w2 ⟨rfl, b2⟩
  have h_2 := h_1.below b2
  have T_2 := T_1.below b2
  have bx_2 := bx_1.below b2 bx_1.lt
  have F2 := below_then F1 (Nat.le_refl _) b2
  have bx_u2 := bx_2.cell0
  have bx_v2 := bx_2.cell1
  have bx_w2 := bx_2.cell2
  go_wp2_with fail
  refine (few_yes _ _ _ _ _ _ _ _ hn hm).mono ?_
  rintro e w3 ⟨rfl, b3⟩
  have h_3 := h_2.below b3
  have T_3 := T_2.below b3
  have bx_3 := bx_2.below b3 bx_2.lt
  have F3 := below_then F2 (Nat.le_refl _) b3
  have bx_u3 := bx_3.cell0
  have bx_v3 := bx_3.cell1
  have bx_w3 := bx_3.cell2
  go_wp2_with fail
  refine (ydown_at _ _ _ _ _ _ _ K _ q u _ HU.out HK.out h_3 hn hm HKK.out T_3).mono ?_
  rintro e w4 ⟨s4, A4, n4, c4, x4, rfl, yu, b4⟩
  have h_4 := h_3.below b4
  have T_4 := T_3.below b4
  have bx_4 := bx_3.below b4 bx_3.lt
  have F4 := below_then F3 (Nat.le_refl _) b4
  have bx_u4 := bx_4.cell0
  have bx_v4 := bx_4.cell1
  have bx_w4 := bx_4.cell2
  have lt_bu_bx := bx_4.lt
  have h_5 := h_4.alloc (EY s4 A4 n4 c4 x4)
  have T_5 := T_4.alloc (EY s4 A4 n4 c4 x4)
  have yu_5 := yu.alloc (EY s4 A4 n4 c4 x4)
  have bx_5 := bx_4.alloc (EY s4 A4 n4 c4 x4)
  have bu_5 : Sy ((w4).alloc (EY s4 A4 n4 c4 x4)) (w4.heap.size) (.bool s4) (.slice A4 n4 c4) (.int .i64 x4) := by have h_ := Sy.new (w4) (.bool s4) (.slice A4 n4 c4) (.int .i64 x4); exact h_
  have F5 := F4.alloc F4.size (EY s4 A4 n4 c4 x4)
  have bx_u5 := bx_5.cell0
  have bx_v5 := bx_5.cell1
  have bx_w5 := bx_5.cell2
  have bu_u5 := bu_5.cell0
  have bu_v5 := bu_5.cell1
  have bu_w5 := bu_5.cell2
  go_wp2_with fail
  refine (yup_at _ _ _ _ _ _ _ K _ q v _ HV.out HK.out h_5 hn hm HKK.out T_5).mono ?_
  rintro e w6 ⟨s6, A6, n6, c6, x6, rfl, yv, b6⟩
  have h_6 := h_5.below b6
  have T_6 := T_5.below b6
  have yu_6 := yu_5.below b6
  have bx_6 := bx_5.below b6 bx_5.lt
  have bu_6 := bu_5.below b6 bu_5.lt
  have F6 := below_then F5 (Nat.le_refl _) b6
  have bx_u6 := bx_6.cell0
  have bx_v6 := bx_6.cell1
  have bx_w6 := bx_6.cell2
  have bu_u6 := bu_6.cell0
  have bu_v6 := bu_6.cell1
  have bu_w6 := bu_6.cell2
  have lt_bv_bx := bx_6.lt
  have lt_bv_bu := bu_6.lt
  have h_7 := h_6.alloc (EY s6 A6 n6 c6 x6)
  have T_7 := T_6.alloc (EY s6 A6 n6 c6 x6)
  have yu_7 := yu_6.alloc (EY s6 A6 n6 c6 x6)
  have yv_7 := yv.alloc (EY s6 A6 n6 c6 x6)
  have bx_7 := bx_6.alloc (EY s6 A6 n6 c6 x6)
  have bu_7 := bu_6.alloc (EY s6 A6 n6 c6 x6)
  have bv_7 : Sy ((w6).alloc (EY s6 A6 n6 c6 x6)) (w6.heap.size) (.bool s6) (.slice A6 n6 c6) (.int .i64 x6) := by have h_ := Sy.new (w6) (.bool s6) (.slice A6 n6 c6) (.int .i64 x6); exact h_
  have F7 := F6.alloc F6.size (EY s6 A6 n6 c6 x6)
  have bx_u7 := bx_7.cell0
  have bx_v7 := bx_7.cell1
  have bx_w7 := bx_7.cell2
  have bu_u7 := bu_7.cell0
  have bu_v7 := bu_7.cell1
  have bu_w7 := bu_7.cell2
  have bv_u7 := bv_7.cell0
  have bv_v7 := bv_7.cell1
  have bv_w7 := bv_7.cell2
  have HEU := hide (show x4 = de u from yu_7.2.2.1)
  have HEV := hide (show x6 = de v from yv_7.2.2.1)
  have nu7 := yu_7.ln mu
  have nv7 := yv_7.ln mv
  go_wp2_with fail
  refine (ryvalid_at _ _ _ _ _ _ true _ (cy_vb yu_7 (by rw [HEU.out]; exact HDu2.out)) yu_7.rd (Nat.le_trans nu7 p71)).mono ?_
  rintro e w8 ⟨rfl, b8⟩
  have h_8 := h_7.below b8
  have yu_8 := yu_7.below b8
  have yv_8 := yv_7.below b8
  have bx_8 := bx_7.below b8 bx_7.lt
  have bu_8 := bu_7.below b8 bu_7.lt
  have bv_8 := bv_7.below b8 bv_7.lt
  have F8 := below_then F7 (Nat.le_refl _) b8
  have bx_u8 := bx_8.cell0
  have bx_v8 := bx_8.cell1
  have bx_w8 := bx_8.cell2
  have bu_u8 := bu_8.cell0
  have bu_v8 := bu_8.cell1
  have bu_w8 := bu_8.cell2
  have bv_u8 := bv_8.cell0
  have bv_v8 := bv_8.cell1
  have bv_w8 := bv_8.cell2
  go_wp2_with fail
  refine (ryvalid_at _ _ _ _ _ _ true _ (cy_vb yv_8 (by rw [HEV.out]; exact HDv2.out)) yv_8.rd (Nat.le_trans nv7 p71)).mono ?_
  rintro e w9 ⟨rfl, b9⟩
  have h_9 := h_8.below b9
  have yu_9 := yu_8.below b9
  have yv_9 := yv_8.below b9
  have bx_9 := bx_8.below b9 bx_8.lt
  have bu_9 := bu_8.below b9 bu_8.lt
  have bv_9 := bv_8.below b9 bv_8.lt
  have F9 := below_then F8 (Nat.le_refl _) b9
  have bx_u9 := bx_9.cell0
  have bx_v9 := bx_9.cell1
  have bx_w9 := bx_9.cell2
  have bu_u9 := bu_9.cell0
  have bu_v9 := bu_9.cell1
  have bu_w9 := bu_9.cell2
  have bv_u9 := bv_9.cell0
  have bv_v9 := bv_9.cell1
  have bv_w9 := bv_9.cell2
  go_wp2_with fail
  refine (rbits_bl _ _ _ _ _ (dm u) ru (val_dg _) HRU.out yu_9.rd (Nat.le_trans nu7 p71)).mono ?_
  rintro e w10 ⟨rfl, b10⟩
  have h_10 := h_9.below b10
  have yu_10 := yu_9.below b10
  have yv_10 := yv_9.below b10
  have bx_10 := bx_9.below b10 bx_9.lt
  have bu_10 := bu_9.below b10 bu_9.lt
  have bv_10 := bv_9.below b10 bv_9.lt
  have F10 := below_then F9 (Nat.le_refl _) b10
  have bx_u10 := bx_10.cell0
  have bx_v10 := bx_10.cell1
  have bx_w10 := bx_10.cell2
  have bu_u10 := bu_10.cell0
  have bu_v10 := bu_10.cell1
  have bu_w10 := bu_10.cell2
  have bv_u10 := bv_10.cell0
  have bv_v10 := bv_10.cell1
  have bv_w10 := bv_10.cell2
  go_wp2_with fail
  refine (rbits_bl _ _ _ _ _ (dm v) rv_ (val_dg _) HRV.out yv_10.rd (Nat.le_trans nv7 p71)).mono ?_
  rintro e w11 ⟨rfl, b11⟩
  have h_11 := h_10.below b11
  have yu_11 := yu_10.below b11
  have yv_11 := yv_10.below b11
  have bx_11 := bx_10.below b11 bx_10.lt
  have bu_11 := bu_10.below b11 bu_10.lt
  have bv_11 := bv_10.below b11 bv_10.lt
  have F11 := below_then F10 (Nat.le_refl _) b11
  have bx_u11 := bx_11.cell0
  have bx_v11 := bx_11.cell1
  have bx_w11 := bx_11.cell2
  have bu_u11 := bu_11.cell0
  have bu_v11 := bu_11.cell1
  have bu_w11 := bu_11.cell2
  have bv_u11 := bv_11.cell0
  have bv_v11 := bv_11.cell1
  have bv_w11 := bv_11.cell2
  clear h_1 T_1 bx_1 F1 b2 h_2 T_2 bx_2 F2 bx_u2 bx_v2 bx_w2 b3 h_3 T_3 bx_3 F3 bx_u3 bx_v3 bx_w3 yu b4 h_4 T_4 bx_4 F4 bx_u4 bx_v4 bx_w4 lt_bu_bx h_5 T_5 yu_5 bx_5 bu_5 F5 bx_u5 bx_v5 bx_w5 bu_u5 bu_v5 bu_w5 yv b6 h_6 T_6 yu_6 bx_6 bu_6 F6 bx_u6 bx_v6 bx_w6 bu_u6 bu_v6 bu_w6 lt_bv_bx lt_bv_bu h_7 T_7 yu_7 yv_7 bx_7 bu_7 bv_7 F7 bx_u7 bx_v7 bx_w7 bu_u7 bu_v7 bu_w7 bv_u7 bv_v7 bv_w7 b8 h_8 yu_8 yv_8 bx_8 bu_8 bv_8 F8 bx_u8 bx_v8 bx_w8 bu_u8 bu_v8 bu_w8 bv_u8 bv_v8 bv_w8 b9 h_9 yu_9 yv_9 bx_9 bu_9 bv_9 F9 bx_u9 bx_v9 bx_w9 bu_u9 bu_v9 bu_w9 bv_u9 bv_v9 bv_w9 b10 h_10 yu_10 yv_10 bx_10 bu_10 bv_10 F10 bx_u10 bx_v10 bx_w10 bu_u10 bu_v10 bu_w10 bv_u10 bv_v10 bv_w10 b11 bx_u11 bx_v11 bx_w11 bu_u11 bu_v11 bu_w11 bv_u11 bv_v11 bv_w11
  go_upto_region 10 with fail
  go_cut [10, 11] (fun sx sy wy => ∃ (W' : World) (gx gy : Nat) (s1_ : Bool) (A1_ : Option Addr) (n1_ c1_ : Nat) (B1_ : Option Addr) (m1_ d1_ : Nat) (s2_ : Bool) (A2_ : Option Addr) (n2_ c2_ : Nat) (B2_ : Option Addr) (m2_ d2_ : Nat), W' = wy ∧ sx = .pointer (some ⟨gx, 0, none⟩) ∧ sy = .pointer (some ⟨gy, 0, none⟩) ∧ Sq W' gx (.bool s1_) (.slice A1_ n1_ c1_) (.slice B1_ m1_ d1_) ∧ Sq W' gy (.bool s2_) (.slice A2_ n2_ c2_) (.slice B2_ m2_ d2_) ∧ Sq W' (w.heap.size) (.bool s) (.slice A n c) (.slice B m d) ∧ Sy W' (w4.heap.size) (.bool s4) (.slice A4 n4 c4) (.int .i64 x4) ∧ Sy W' (w6.heap.size) (.bool s6) (.slice A6 n6 c6) (.int .i64 x6) ∧ Iq W' s A n c B m d q ∧ Cy W' s4 A4 n4 c4 x4 u ∧ Cy W' s6 A6 n6 c6 x6 v ∧ Cq W' s1_ A1_ n1_ c1_ B1_ m1_ d1_ u ∧ Cq W' s2_ A2_ n2_ c2_ B2_ m2_ d2_ v ∧ Below w.heap.size w W')
  case first =>
    have ltq_bx := bx_11.lt
    have ltq_bu := bu_11.lt
    have ltq_bv := bv_11.lt
    have glq := F11.size
    have nq1_ : w.heap.size ≠ w11.heap.size := by omega
    have nq2_ := Ne.symm nq1_
    have nq3_ : w.heap.size ≠ w11.heap.size + 1 := by omega
    have nq4_ := Ne.symm nq3_
    have h_12 := h_11.drew
    have yu_12 := yu_11.drew
    have yv_12 := yv_11.drew
    have bx_12 := bx_11.drew
    have bu_12 := bu_11.drew
    have bv_12 := bv_11.drew
    have F12 := F11.drew
    have h_y1 := h_11.alloc EQ0
    have yu_y1 := yu_11.alloc EQ0
    have yv_y1 := yv_11.alloc EQ0
    have bx_y1 := bx_11.alloc EQ0
    have bu_y1 := bu_11.alloc EQ0
    have bv_y1 := bv_11.alloc EQ0
    have zq1 : Sq ((w11).alloc EQ0) (w11.heap.size) (.bool false) (.slice none 0 0) (.slice none 0 0) := by have h_ := Sq.new (w11) (.bool false) (.slice none 0 0) (.slice none 0 0); exact h_
    have F_y1 := F11.alloc F11.size EQ0
    have h_d1 := h_y1.drew
    have yu_d1 := yu_y1.drew
    have yv_d1 := yv_y1.drew
    have bx_d1 := bx_y1.drew
    have bu_d1 := bu_y1.drew
    have bv_d1 := bv_y1.drew
    have z1_d1 := zq1.drew
    have F_d1 := F_y1.drew
    have h_y2 := h_y1.alloc EQ0
    have yu_y2 := yu_y1.alloc EQ0
    have yv_y2 := yv_y1.alloc EQ0
    have bx_y2 := bx_y1.alloc EQ0
    have bu_y2 := bu_y1.alloc EQ0
    have bv_y2 := bv_y1.alloc EQ0
    have zq12 := zq1.alloc EQ0
    have zq2 : Sq (((w11).alloc EQ0).alloc EQ0) (w11.heap.size + 1) (.bool false) (.slice none 0 0) (.slice none 0 0) := by have h_ := Sq.new ((w11).alloc EQ0) (.bool false) (.slice none 0 0) (.slice none 0 0); simp only [World.size_alloc] at h_; exact h_
    have F_y2 := F_y1.alloc F_y1.size EQ0
    have h_d2 := h_y2.drew
    have yu_d2 := yu_y2.drew
    have yv_d2 := yv_y2.drew
    have bx_d2 := bx_y2.drew
    have bu_d2 := bu_y2.drew
    have bv_d2 := bv_y2.drew
    have z1_d2 := zq12.drew
    have z2_d2 := zq2.drew
    have F_d2 := F_y2.drew
    have lz1_bx := Nat.ne_of_lt bx_11.lt
    have ly1_bx := Ne.symm lz1_bx
    have lz1_bu := Nat.ne_of_lt bu_11.lt
    have ly1_bu := Ne.symm lz1_bu
    have lz1_bv := Nat.ne_of_lt bv_11.lt
    have ly1_bv := Ne.symm lz1_bv
    have lz2_bx : w.heap.size ≠ w11.heap.size + 1 := by omega
    have ly2_bx := Ne.symm lz2_bx
    have lz2_bu : w4.heap.size ≠ w11.heap.size + 1 := by omega
    have ly2_bu := Ne.symm lz2_bu
    have lz2_bv : w6.heap.size ≠ w11.heap.size + 1 := by omega
    have ly2_bv := Ne.symm lz2_bv
    have gl1 : w.heap.size ≤ w11.heap.size := by have := F11.size; omega
    have gl2 : w.heap.size ≤ w11.heap.size + 1 := by have := F11.size; omega
    have lzz1_2 : w11.heap.size ≠ w11.heap.size + 1 := by omega
    have lyy1_2 := Ne.symm lzz1_2
    go_region_held3 (fun w' => w'.cell? ⟨w4.heap.size, 0, none⟩ = some (.bool s4) ∧ w'.cell? ⟨w4.heap.size, 1, none⟩ = some (.slice A4 n4 c4) ∧ w'.cell? ⟨w4.heap.size, 2, none⟩ = some (.int .i64 x4) ∧ w'.cell? ⟨w6.heap.size, 0, none⟩ = some (.bool s6) ∧ w'.cell? ⟨w6.heap.size, 1, none⟩ = some (.slice A6 n6 c6) ∧ w'.cell? ⟨w6.heap.size, 2, none⟩ = some (.int .i64 x6))
      (first
        | with_reducible exact ⟨((bu_14.alloc EQ0).alloc EQ0).cell0, ((bu_14.alloc EQ0).alloc EQ0).cell1, ((bu_14.alloc EQ0).alloc EQ0).cell2, ((bv_14.alloc EQ0).alloc EQ0).cell0, ((bv_14.alloc EQ0).alloc EQ0).cell1, ((bv_14.alloc EQ0).alloc EQ0).cell2⟩
        | with_reducible exact ⟨(bu_14.alloc EQ0).cell0, (bu_14.alloc EQ0).cell1, (bu_14.alloc EQ0).cell2, (bv_14.alloc EQ0).cell0, (bv_14.alloc EQ0).cell1, (bv_14.alloc EQ0).cell2⟩
        | with_reducible exact ⟨bu_14.cell0, bu_14.cell1, bu_14.cell2, bv_14.cell0, bv_14.cell1, bv_14.cell2⟩
        | with_reducible exact ⟨((bu_13.alloc EQ0).alloc EQ0).cell0, ((bu_13.alloc EQ0).alloc EQ0).cell1, ((bu_13.alloc EQ0).alloc EQ0).cell2, ((bv_13.alloc EQ0).alloc EQ0).cell0, ((bv_13.alloc EQ0).alloc EQ0).cell1, ((bv_13.alloc EQ0).alloc EQ0).cell2⟩
        | with_reducible exact ⟨(bu_13.alloc EQ0).cell0, (bu_13.alloc EQ0).cell1, (bu_13.alloc EQ0).cell2, (bv_13.alloc EQ0).cell0, (bv_13.alloc EQ0).cell1, (bv_13.alloc EQ0).cell2⟩
        | with_reducible exact ⟨bu_13.cell0, bu_13.cell1, bu_13.cell2, bv_13.cell0, bv_13.cell1, bv_13.cell2⟩
        | with_reducible exact ⟨bu_d2.cell0, bu_d2.cell1, bu_d2.cell2, bv_d2.cell0, bv_d2.cell1, bv_d2.cell2⟩
        | with_reducible exact ⟨bu_d1.cell0, bu_d1.cell1, bu_d1.cell2, bv_d1.cell0, bv_d1.cell1, bv_d1.cell2⟩
        | with_reducible exact ⟨bu_12.cell0, bu_12.cell1, bu_12.cell2, bv_12.cell0, bv_12.cell1, bv_12.cell2⟩
        | go_keep
        | fail)
      (first
        | (go_at_call 23; (with_reducible refine (ryrat _ _ _ _ _ u _ yu_12 (Nat.le_trans nu7 p7) (by rw [HEU.out]; exact HDu.out)).mono ?_); rintro e w13 ⟨s13, A13, n13, c13, B13, m13, d13, rfl, rx, b13⟩; have h_13 := h_12.below b13; have yu_13 := yu_12.below b13; have yv_13 := yv_12.below b13; have bx_13 := bx_12.below b13 bx_12.lt; have bu_13 := bu_12.below b13 bu_12.lt; have bv_13 := bv_12.below b13 bv_12.lt; have F13 := below_then F12 (Nat.le_refl _) b13)
        | (go_at_call 23; (with_reducible refine (ryrat _ _ _ _ _ u _ yu_d1 (Nat.le_trans nu7 p7) (by rw [HEU.out]; exact HDu.out)).mono ?_); rintro e w13 ⟨s13, A13, n13, c13, B13, m13, d13, rfl, rx, b13⟩; have h_13 := h_d1.below b13; have yu_13 := yu_d1.below b13; have yv_13 := yv_d1.below b13; have bx_13 := bx_d1.below b13 bx_d1.lt; have bu_13 := bu_d1.below b13 bu_d1.lt; have bv_13 := bv_d1.below b13 bv_d1.lt; have z1_13 := z1_d1.below b13 z1_d1.lt; have F13 := below_then F_d1 (Nat.le_refl _) b13)
        | (go_at_call 23; (with_reducible refine (ryrat _ _ _ _ _ u _ yu_d2 (Nat.le_trans nu7 p7) (by rw [HEU.out]; exact HDu.out)).mono ?_); rintro e w13 ⟨s13, A13, n13, c13, B13, m13, d13, rfl, rx, b13⟩; have h_13 := h_d2.below b13; have yu_13 := yu_d2.below b13; have yv_13 := yv_d2.below b13; have bx_13 := bx_d2.below b13 bx_d2.lt; have bu_13 := bu_d2.below b13 bu_d2.lt; have bv_13 := bv_d2.below b13 bv_d2.lt; have z1_13 := z1_d2.below b13 z1_d2.lt; have z2_13 := z2_d2.below b13 z2_d2.lt; have F13 := below_then F_d2 (Nat.le_refl _) b13)
        | (go_at_call 23; (with_reducible refine (ryrat _ _ _ _ _ v _ yv_13 (Nat.le_trans nv7 p7) (by rw [HEV.out]; exact HDv.out)).mono ?_); rintro e w14 ⟨s14, A14, n14, c14, B14, m14, d14, rfl, ry, b14⟩; have h_14 := h_13.below b14; have yu_14 := yu_13.below b14; have yv_14 := yv_13.below b14; have rx_14 := rx.below b14; have bx_14 := bx_13.below b14 bx_13.lt; have bu_14 := bu_13.below b14 bu_13.lt; have bv_14 := bv_13.below b14 bv_13.lt; have z1_14 := z1_13.below b14 z1_13.lt; have z2_14 := z2_13.below b14 z2_13.lt; have zk0_0 := z1_14.cell0; have zf0_0 := z1_14.frozen 0; have zk0_1 := z1_14.cell1; have zf0_1 := z1_14.frozen 1; have zk0_2 := z1_14.cell2; have zf0_2 := z1_14.frozen 2; have zk1_0 := z2_14.cell0; have zf1_0 := z2_14.frozen 0; have zk1_1 := z2_14.cell1; have zf1_1 := z2_14.frozen 1; have zk1_2 := z2_14.cell2; have zf1_2 := z2_14.frozen 2; have F14 := below_then F13 (Nat.le_refl _) b14; have kl_bx := bx_14.lt; have km_bx := Nat.ne_of_lt bx_14.lt; have kn_bx := Nat.ne_of_gt bx_14.lt; have kc_bx0 := bx_14.cell0; have kc_bx1 := bx_14.cell1; have kc_bx2 := bx_14.cell2; have kl_bu := bu_14.lt; have km_bu := Nat.ne_of_lt bu_14.lt; have kn_bu := Nat.ne_of_gt bu_14.lt; have kc_bu0 := bu_14.cell0; have kc_bu1 := bu_14.cell1; have kc_bu2 := bu_14.cell2; have kl_bv := bv_14.lt; have km_bv := Nat.ne_of_lt bv_14.lt; have kn_bv := Nat.ne_of_gt bv_14.lt; have kc_bv0 := bv_14.cell0; have kc_bv1 := bv_14.cell1; have kc_bv2 := bv_14.cell2; have kl0 := z1_14.lt; have km0 := Nat.ne_of_lt z1_14.lt; have kn0 := Nat.ne_of_gt z1_14.lt; have kl1 := z2_14.lt; have km1 := Nat.ne_of_lt z2_14.lt; have kn1 := Nat.ne_of_gt z2_14.lt)
        | (go_at_call 23; (with_reducible refine (ryrat _ _ _ _ _ v _ yv_13 (Nat.le_trans nv7 p7) (by rw [HEV.out]; exact HDv.out)).mono ?_); rintro e w14 ⟨s14, A14, n14, c14, B14, m14, d14, rfl, ry, b14⟩; have h_14 := h_13.below b14; have yu_14 := yu_13.below b14; have yv_14 := yv_13.below b14; have rx_14 := rx.below b14; have bx_14 := bx_13.below b14 bx_13.lt; have bu_14 := bu_13.below b14 bu_13.lt; have bv_14 := bv_13.below b14 bv_13.lt; have z1_14 := z1_13.below b14 z1_13.lt; have zk0_0 := z1_14.cell0; have zf0_0 := z1_14.frozen 0; have zk0_1 := z1_14.cell1; have zf0_1 := z1_14.frozen 1; have zk0_2 := z1_14.cell2; have zf0_2 := z1_14.frozen 2; have F14 := below_then F13 (Nat.le_refl _) b14; have kl_bx := bx_14.lt; have km_bx := Nat.ne_of_lt bx_14.lt; have kn_bx := Nat.ne_of_gt bx_14.lt; have kc_bx0 := bx_14.cell0; have kc_bx1 := bx_14.cell1; have kc_bx2 := bx_14.cell2; have kl_bu := bu_14.lt; have km_bu := Nat.ne_of_lt bu_14.lt; have kn_bu := Nat.ne_of_gt bu_14.lt; have kc_bu0 := bu_14.cell0; have kc_bu1 := bu_14.cell1; have kc_bu2 := bu_14.cell2; have kl_bv := bv_14.lt; have km_bv := Nat.ne_of_lt bv_14.lt; have kn_bv := Nat.ne_of_gt bv_14.lt; have kc_bv0 := bv_14.cell0; have kc_bv1 := bv_14.cell1; have kc_bv2 := bv_14.cell2; have kl0 := z1_14.lt; have km0 := Nat.ne_of_lt z1_14.lt; have kn0 := Nat.ne_of_gt z1_14.lt)
        | (have qx_bx := bx_13.lt; have qx_bu := bu_13.lt; have qx_bv := bv_13.lt; have qz_z1_13 := z1_13.lt; have lz2_bx : w.heap.size ≠ w13.heap.size := (by omega); have ly2_bx := Ne.symm lz2_bx; have lz2_bu : w4.heap.size ≠ w13.heap.size := (by omega); have ly2_bu := Ne.symm lz2_bu; have lz2_bv : w6.heap.size ≠ w13.heap.size := (by omega); have ly2_bv := Ne.symm lz2_bv; have gl2 : w.heap.size ≤ w13.heap.size := (by have := F13.size; omega); have lzz1_2 := Nat.ne_of_lt (Nat.lt_of_lt_of_le qz_z1_13 (show w13.heap.size ≤ w13.heap.size by omega)); have lyy1_2 := Ne.symm lzz1_2; have h_13a := h_13.alloc EQ0; have yu_13a := yu_13.alloc EQ0; have yv_13a := yv_13.alloc EQ0; have rx_13a := rx.alloc EQ0; have bx_13a := bx_13.alloc EQ0; have bu_13a := bu_13.alloc EQ0; have bv_13a := bv_13.alloc EQ0; have z1_13a := z1_13.alloc EQ0; have z2_13a : Sq ((w13).alloc EQ0) (w13.heap.size) (.bool false) (.slice none 0 0) (.slice none 0 0) := (by (have h_ := Sq.new (w13) (.bool false) (.slice none 0 0) (.slice none 0 0); exact h_)); have F_13a := F13.alloc F13.size EQ0; go_at_call 23; (with_reducible refine (ryrat _ _ _ _ _ v _ yv_13a (Nat.le_trans nv7 p7) (by rw [HEV.out]; exact HDv.out)).mono ?_); rintro e w14 ⟨s14, A14, n14, c14, B14, m14, d14, rfl, ry, b14⟩; have h_14 := h_13a.below b14; have yu_14 := yu_13a.below b14; have yv_14 := yv_13a.below b14; have rx_14 := rx_13a.below b14; have bx_14 := bx_13a.below b14 bx_13a.lt; have bu_14 := bu_13a.below b14 bu_13a.lt; have bv_14 := bv_13a.below b14 bv_13a.lt; have z1_14 := z1_13a.below b14 z1_13a.lt; have z2_14 := z2_13a.below b14 z2_13a.lt; have zk0_0 := z1_14.cell0; have zf0_0 := z1_14.frozen 0; have zk0_1 := z1_14.cell1; have zf0_1 := z1_14.frozen 1; have zk0_2 := z1_14.cell2; have zf0_2 := z1_14.frozen 2; have zk1_0 := z2_14.cell0; have zf1_0 := z2_14.frozen 0; have zk1_1 := z2_14.cell1; have zf1_1 := z2_14.frozen 1; have zk1_2 := z2_14.cell2; have zf1_2 := z2_14.frozen 2; have F14 := below_then F_13a (Nat.le_refl _) b14; have kl_bx := bx_14.lt; have km_bx := Nat.ne_of_lt bx_14.lt; have kn_bx := Nat.ne_of_gt bx_14.lt; have kc_bx0 := bx_14.cell0; have kc_bx1 := bx_14.cell1; have kc_bx2 := bx_14.cell2; have kl_bu := bu_14.lt; have km_bu := Nat.ne_of_lt bu_14.lt; have kn_bu := Nat.ne_of_gt bu_14.lt; have kc_bu0 := bu_14.cell0; have kc_bu1 := bu_14.cell1; have kc_bu2 := bu_14.cell2; have kl_bv := bv_14.lt; have km_bv := Nat.ne_of_lt bv_14.lt; have kn_bv := Nat.ne_of_gt bv_14.lt; have kc_bv0 := bv_14.cell0; have kc_bv1 := bv_14.cell1; have kc_bv2 := bv_14.cell2; have kl0 := z1_14.lt; have km0 := Nat.ne_of_lt z1_14.lt; have kn0 := Nat.ne_of_gt z1_14.lt; have kl1 := z2_14.lt; have km1 := Nat.ne_of_lt z2_14.lt; have kn1 := Nat.ne_of_gt z2_14.lt)
        | (go_at_call 23; (with_reducible refine (ryrat _ _ _ _ _ v _ yv_13 (Nat.le_trans nv7 p7) (by rw [HEV.out]; exact HDv.out)).mono ?_); rintro e w14 ⟨s14, A14, n14, c14, B14, m14, d14, rfl, ry, b14⟩; have h_14 := h_13.below b14; have yu_14 := yu_13.below b14; have yv_14 := yv_13.below b14; have rx_14 := rx.below b14; have bx_14 := bx_13.below b14 bx_13.lt; have bu_14 := bu_13.below b14 bu_13.lt; have bv_14 := bv_13.below b14 bv_13.lt; have F14 := below_then F13 (Nat.le_refl _) b14; have kl_bx := bx_14.lt; have km_bx := Nat.ne_of_lt bx_14.lt; have kn_bx := Nat.ne_of_gt bx_14.lt; have kc_bx0 := bx_14.cell0; have kc_bx1 := bx_14.cell1; have kc_bx2 := bx_14.cell2; have kl_bu := bu_14.lt; have km_bu := Nat.ne_of_lt bu_14.lt; have kn_bu := Nat.ne_of_gt bu_14.lt; have kc_bu0 := bu_14.cell0; have kc_bu1 := bu_14.cell1; have kc_bu2 := bu_14.cell2; have kl_bv := bv_14.lt; have km_bv := Nat.ne_of_lt bv_14.lt; have kn_bv := Nat.ne_of_gt bv_14.lt; have kc_bv0 := bv_14.cell0; have kc_bv1 := bv_14.cell1; have kc_bv2 := bv_14.cell2)
        | (have qx_bx := bx_13.lt; have qx_bu := bu_13.lt; have qx_bv := bv_13.lt; have lz1_bx : w.heap.size ≠ w13.heap.size := (by omega); have ly1_bx := Ne.symm lz1_bx; have lz1_bu : w4.heap.size ≠ w13.heap.size := (by omega); have ly1_bu := Ne.symm lz1_bu; have lz1_bv : w6.heap.size ≠ w13.heap.size := (by omega); have ly1_bv := Ne.symm lz1_bv; have gl1 : w.heap.size ≤ w13.heap.size := (by have := F13.size; omega); have h_13a := h_13.alloc EQ0; have yu_13a := yu_13.alloc EQ0; have yv_13a := yv_13.alloc EQ0; have rx_13a := rx.alloc EQ0; have bx_13a := bx_13.alloc EQ0; have bu_13a := bu_13.alloc EQ0; have bv_13a := bv_13.alloc EQ0; have z1_13a : Sq ((w13).alloc EQ0) (w13.heap.size) (.bool false) (.slice none 0 0) (.slice none 0 0) := (by (have h_ := Sq.new (w13) (.bool false) (.slice none 0 0) (.slice none 0 0); exact h_)); have F_13a := F13.alloc F13.size EQ0; go_at_call 23; (with_reducible refine (ryrat _ _ _ _ _ v _ yv_13a (Nat.le_trans nv7 p7) (by rw [HEV.out]; exact HDv.out)).mono ?_); rintro e w14 ⟨s14, A14, n14, c14, B14, m14, d14, rfl, ry, b14⟩; have h_14 := h_13a.below b14; have yu_14 := yu_13a.below b14; have yv_14 := yv_13a.below b14; have rx_14 := rx_13a.below b14; have bx_14 := bx_13a.below b14 bx_13a.lt; have bu_14 := bu_13a.below b14 bu_13a.lt; have bv_14 := bv_13a.below b14 bv_13a.lt; have z1_14 := z1_13a.below b14 z1_13a.lt; have zk0_0 := z1_14.cell0; have zf0_0 := z1_14.frozen 0; have zk0_1 := z1_14.cell1; have zf0_1 := z1_14.frozen 1; have zk0_2 := z1_14.cell2; have zf0_2 := z1_14.frozen 2; have F14 := below_then F_13a (Nat.le_refl _) b14; have kl_bx := bx_14.lt; have km_bx := Nat.ne_of_lt bx_14.lt; have kn_bx := Nat.ne_of_gt bx_14.lt; have kc_bx0 := bx_14.cell0; have kc_bx1 := bx_14.cell1; have kc_bx2 := bx_14.cell2; have kl_bu := bu_14.lt; have km_bu := Nat.ne_of_lt bu_14.lt; have kn_bu := Nat.ne_of_gt bu_14.lt; have kc_bu0 := bu_14.cell0; have kc_bu1 := bu_14.cell1; have kc_bu2 := bu_14.cell2; have kl_bv := bv_14.lt; have km_bv := Nat.ne_of_lt bv_14.lt; have kn_bv := Nat.ne_of_gt bv_14.lt; have kc_bv0 := bv_14.cell0; have kc_bv1 := bv_14.cell1; have kc_bv2 := bv_14.cell2; have kl0 := z1_14.lt; have km0 := Nat.ne_of_lt z1_14.lt; have kn0 := Nat.ne_of_gt z1_14.lt)
        | (have qx_bx := bx_13.lt; have qx_bu := bu_13.lt; have qx_bv := bv_13.lt; have lz1_bx : w.heap.size ≠ w13.heap.size := (by omega); have ly1_bx := Ne.symm lz1_bx; have lz1_bu : w4.heap.size ≠ w13.heap.size := (by omega); have ly1_bu := Ne.symm lz1_bu; have lz1_bv : w6.heap.size ≠ w13.heap.size := (by omega); have ly1_bv := Ne.symm lz1_bv; have gl1 : w.heap.size ≤ w13.heap.size := (by have := F13.size; omega); have h_13a := h_13.alloc EQ0; have yu_13a := yu_13.alloc EQ0; have yv_13a := yv_13.alloc EQ0; have rx_13a := rx.alloc EQ0; have bx_13a := bx_13.alloc EQ0; have bu_13a := bu_13.alloc EQ0; have bv_13a := bv_13.alloc EQ0; have z1_13a : Sq ((w13).alloc EQ0) (w13.heap.size) (.bool false) (.slice none 0 0) (.slice none 0 0) := (by (have h_ := Sq.new (w13) (.bool false) (.slice none 0 0) (.slice none 0 0); exact h_)); have F_13a := F13.alloc F13.size EQ0; have lz2_bx : w.heap.size ≠ w13.heap.size + 1 := (by omega); have ly2_bx := Ne.symm lz2_bx; have lz2_bu : w4.heap.size ≠ w13.heap.size + 1 := (by omega); have ly2_bu := Ne.symm lz2_bu; have lz2_bv : w6.heap.size ≠ w13.heap.size + 1 := (by omega); have ly2_bv := Ne.symm lz2_bv; have gl2 : w.heap.size ≤ w13.heap.size + 1 := (by have := F13.size; omega); have lzz1_2 : w13.heap.size ≠ w13.heap.size + 1 := (by omega); have lyy1_2 := Ne.symm lzz1_2; have h_13b := h_13a.alloc EQ0; have yu_13b := yu_13a.alloc EQ0; have yv_13b := yv_13a.alloc EQ0; have rx_13b := rx_13a.alloc EQ0; have bx_13b := bx_13a.alloc EQ0; have bu_13b := bu_13a.alloc EQ0; have bv_13b := bv_13a.alloc EQ0; have z1_13b := z1_13a.alloc EQ0; have z2_13b : Sq (((w13).alloc EQ0).alloc EQ0) (w13.heap.size + 1) (.bool false) (.slice none 0 0) (.slice none 0 0) := (by (have h_ := Sq.new ((w13).alloc EQ0) (.bool false) (.slice none 0 0) (.slice none 0 0); simp only [World.size_alloc] at h_; exact h_)); have F_13b := F_13a.alloc F_13a.size EQ0; go_at_call 23; (with_reducible refine (ryrat _ _ _ _ _ v _ yv_13b (Nat.le_trans nv7 p7) (by rw [HEV.out]; exact HDv.out)).mono ?_); rintro e w14 ⟨s14, A14, n14, c14, B14, m14, d14, rfl, ry, b14⟩; have h_14 := h_13b.below b14; have yu_14 := yu_13b.below b14; have yv_14 := yv_13b.below b14; have rx_14 := rx_13b.below b14; have bx_14 := bx_13b.below b14 bx_13b.lt; have bu_14 := bu_13b.below b14 bu_13b.lt; have bv_14 := bv_13b.below b14 bv_13b.lt; have z1_14 := z1_13b.below b14 z1_13b.lt; have z2_14 := z2_13b.below b14 z2_13b.lt; have zk0_0 := z1_14.cell0; have zf0_0 := z1_14.frozen 0; have zk0_1 := z1_14.cell1; have zf0_1 := z1_14.frozen 1; have zk0_2 := z1_14.cell2; have zf0_2 := z1_14.frozen 2; have zk1_0 := z2_14.cell0; have zf1_0 := z2_14.frozen 0; have zk1_1 := z2_14.cell1; have zf1_1 := z2_14.frozen 1; have zk1_2 := z2_14.cell2; have zf1_2 := z2_14.frozen 2; have F14 := below_then F_13b (Nat.le_refl _) b14; have kl_bx := bx_14.lt; have km_bx := Nat.ne_of_lt bx_14.lt; have kn_bx := Nat.ne_of_gt bx_14.lt; have kc_bx0 := bx_14.cell0; have kc_bx1 := bx_14.cell1; have kc_bx2 := bx_14.cell2; have kl_bu := bu_14.lt; have km_bu := Nat.ne_of_lt bu_14.lt; have kn_bu := Nat.ne_of_gt bu_14.lt; have kc_bu0 := bu_14.cell0; have kc_bu1 := bu_14.cell1; have kc_bu2 := bu_14.cell2; have kl_bv := bv_14.lt; have km_bv := Nat.ne_of_lt bv_14.lt; have kn_bv := Nat.ne_of_gt bv_14.lt; have kc_bv0 := bv_14.cell0; have kc_bv1 := bv_14.cell1; have kc_bv2 := bv_14.cell2; have kl0 := z1_14.lt; have km0 := Nat.ne_of_lt z1_14.lt; have kn0 := Nat.ne_of_gt z1_14.lt; have kl1 := z2_14.lt; have km1 := Nat.ne_of_lt z2_14.lt; have kn1 := Nat.ne_of_gt z2_14.lt)
        | fail)
    all_goals (go_wp2_with fail; go_meet; first | with_reducible exact ⟨_, _, _, _, _, _, _, _, _, _, _, _, _, _, _, _, _, rfl, rfl, rfl, z1_14.stor.past lzz1_2, (z2_14.past lyy1_2).stor, (bx_14.past lz1_bx).past lz2_bx, (bu_14.past lz1_bu).past lz2_bu, (bv_14.past lz1_bv).past lz2_bv, (h_14.storQ z1_14 (.bool s13) (.slice A13 n13 c13) (.slice B13 m13 d13)).storQ (z2_14.past lyy1_2) (.bool s14) (.slice A14 n14 c14) (.slice B14 m14 d14), (yu_14.storQ z1_14 (.bool s13) (.slice A13 n13 c13) (.slice B13 m13 d13)).storQ (z2_14.past lyy1_2) (.bool s14) (.slice A14 n14 c14) (.slice B14 m14 d14), (yv_14.storQ z1_14 (.bool s13) (.slice A13 n13 c13) (.slice B13 m13 d13)).storQ (z2_14.past lyy1_2) (.bool s14) (.slice A14 n14 c14) (.slice B14 m14 d14), (rx_14.storQ z1_14 (.bool s13) (.slice A13 n13 c13) (.slice B13 m13 d13)).storQ (z2_14.past lyy1_2) (.bool s14) (.slice A14 n14 c14) (.slice B14 m14 d14), (ry.storQ z1_14 (.bool s13) (.slice A13 n13 c13) (.slice B13 m13 d13)).storQ (z2_14.past lyy1_2) (.bool s14) (.slice A14 n14 c14) (.slice B14 m14 d14), below_storQ (below_storQ F14 gl1) gl2⟩ | with_reducible exact ⟨_, _, _, _, _, _, _, _, _, _, _, _, _, _, _, _, _, rfl, rfl, rfl, (z1_14.past lzz1_2).stor, z2_14.stor.past lyy1_2, (bx_14.past lz2_bx).past lz1_bx, (bu_14.past lz2_bu).past lz1_bu, (bv_14.past lz2_bv).past lz1_bv, (h_14.storQ z2_14 (.bool s14) (.slice A14 n14 c14) (.slice B14 m14 d14)).storQ (z1_14.past lzz1_2) (.bool s13) (.slice A13 n13 c13) (.slice B13 m13 d13), (yu_14.storQ z2_14 (.bool s14) (.slice A14 n14 c14) (.slice B14 m14 d14)).storQ (z1_14.past lzz1_2) (.bool s13) (.slice A13 n13 c13) (.slice B13 m13 d13), (yv_14.storQ z2_14 (.bool s14) (.slice A14 n14 c14) (.slice B14 m14 d14)).storQ (z1_14.past lzz1_2) (.bool s13) (.slice A13 n13 c13) (.slice B13 m13 d13), (rx_14.storQ z2_14 (.bool s14) (.slice A14 n14 c14) (.slice B14 m14 d14)).storQ (z1_14.past lzz1_2) (.bool s13) (.slice A13 n13 c13) (.slice B13 m13 d13), (ry.storQ z2_14 (.bool s14) (.slice A14 n14 c14) (.slice B14 m14 d14)).storQ (z1_14.past lzz1_2) (.bool s13) (.slice A13 n13 c13) (.slice B13 m13 d13), below_storQ (below_storQ F14 gl2) gl1⟩ | with_reducible exact ⟨_, _, _, _, _, _, _, _, _, _, _, _, _, _, _, _, _, rfl, rfl, rfl, z2_14.stor.past lyy1_2, (z1_14.past lzz1_2).stor, (bx_14.past lz2_bx).past lz1_bx, (bu_14.past lz2_bu).past lz1_bu, (bv_14.past lz2_bv).past lz1_bv, (h_14.storQ z2_14 (.bool s13) (.slice A13 n13 c13) (.slice B13 m13 d13)).storQ (z1_14.past lzz1_2) (.bool s14) (.slice A14 n14 c14) (.slice B14 m14 d14), (yu_14.storQ z2_14 (.bool s13) (.slice A13 n13 c13) (.slice B13 m13 d13)).storQ (z1_14.past lzz1_2) (.bool s14) (.slice A14 n14 c14) (.slice B14 m14 d14), (yv_14.storQ z2_14 (.bool s13) (.slice A13 n13 c13) (.slice B13 m13 d13)).storQ (z1_14.past lzz1_2) (.bool s14) (.slice A14 n14 c14) (.slice B14 m14 d14), (rx_14.storQ z2_14 (.bool s13) (.slice A13 n13 c13) (.slice B13 m13 d13)).storQ (z1_14.past lzz1_2) (.bool s14) (.slice A14 n14 c14) (.slice B14 m14 d14), (ry.storQ z2_14 (.bool s13) (.slice A13 n13 c13) (.slice B13 m13 d13)).storQ (z1_14.past lzz1_2) (.bool s14) (.slice A14 n14 c14) (.slice B14 m14 d14), below_storQ (below_storQ F14 gl2) gl1⟩ | with_reducible exact ⟨_, _, _, _, _, _, _, _, _, _, _, _, _, _, _, _, _, rfl, rfl, rfl, (z2_14.past lyy1_2).stor, z1_14.stor.past lzz1_2, (bx_14.past lz1_bx).past lz2_bx, (bu_14.past lz1_bu).past lz2_bu, (bv_14.past lz1_bv).past lz2_bv, (h_14.storQ z1_14 (.bool s14) (.slice A14 n14 c14) (.slice B14 m14 d14)).storQ (z2_14.past lyy1_2) (.bool s13) (.slice A13 n13 c13) (.slice B13 m13 d13), (yu_14.storQ z1_14 (.bool s14) (.slice A14 n14 c14) (.slice B14 m14 d14)).storQ (z2_14.past lyy1_2) (.bool s13) (.slice A13 n13 c13) (.slice B13 m13 d13), (yv_14.storQ z1_14 (.bool s14) (.slice A14 n14 c14) (.slice B14 m14 d14)).storQ (z2_14.past lyy1_2) (.bool s13) (.slice A13 n13 c13) (.slice B13 m13 d13), (rx_14.storQ z1_14 (.bool s14) (.slice A14 n14 c14) (.slice B14 m14 d14)).storQ (z2_14.past lyy1_2) (.bool s13) (.slice A13 n13 c13) (.slice B13 m13 d13), (ry.storQ z1_14 (.bool s14) (.slice A14 n14 c14) (.slice B14 m14 d14)).storQ (z2_14.past lyy1_2) (.bool s13) (.slice A13 n13 c13) (.slice B13 m13 d13), below_storQ (below_storQ F14 gl1) gl2⟩ | with_reducible exact ⟨_, _, _, _, _, _, _, _, _, _, _, _, _, _, _, _, _, rfl, rfl, rfl, (z1_14.stor).alloc _, Sq_at (Sq.new _ _ _ _) (by simp [World.setCell]), (bx_14.past lz1_bx).alloc _, (bu_14.past lz1_bu).alloc _, (bv_14.past lz1_bv).alloc _, (h_14.storQ z1_14 (.bool s13) (.slice A13 n13 c13) (.slice B13 m13 d13)).alloc _, (yu_14.storQ z1_14 (.bool s13) (.slice A13 n13 c13) (.slice B13 m13 d13)).alloc _, (yv_14.storQ z1_14 (.bool s13) (.slice A13 n13 c13) (.slice B13 m13 d13)).alloc _, (rx_14.storQ z1_14 (.bool s13) (.slice A13 n13 c13) (.slice B13 m13 d13)).alloc _, (ry.storQ z1_14 (.bool s13) (.slice A13 n13 c13) (.slice B13 m13 d13)).alloc _, (below_storQ F14 gl1).alloc (below_storQ F14 gl1).size _⟩ | with_reducible exact ⟨_, _, _, _, _, _, _, _, _, _, _, _, _, _, _, _, _, rfl, rfl, rfl, Sq_at (Sq.new _ _ _ _) (by simp [World.setCell]), (z1_14.stor).alloc _, (bx_14.past lz1_bx).alloc _, (bu_14.past lz1_bu).alloc _, (bv_14.past lz1_bv).alloc _, (h_14.storQ z1_14 (.bool s14) (.slice A14 n14 c14) (.slice B14 m14 d14)).alloc _, (yu_14.storQ z1_14 (.bool s14) (.slice A14 n14 c14) (.slice B14 m14 d14)).alloc _, (yv_14.storQ z1_14 (.bool s14) (.slice A14 n14 c14) (.slice B14 m14 d14)).alloc _, (rx_14.storQ z1_14 (.bool s14) (.slice A14 n14 c14) (.slice B14 m14 d14)).alloc _, (ry.storQ z1_14 (.bool s14) (.slice A14 n14 c14) (.slice B14 m14 d14)).alloc _, (below_storQ F14 gl1).alloc (below_storQ F14 gl1).size _⟩ | with_reducible exact ⟨_, _, _, _, _, _, _, _, _, _, _, _, _, _, _, _, _, rfl, rfl, rfl, (Sq.new _ _ _ _).alloc _, Sq_at (Sq.new _ _ _ _) (by simp), (bx_14.alloc _).alloc _, (bu_14.alloc _).alloc _, (bv_14.alloc _).alloc _, (h_14.alloc _).alloc _, (yu_14.alloc _).alloc _, (yv_14.alloc _).alloc _, (rx_14.alloc _).alloc _, (ry.alloc _).alloc _, (F14.alloc F14.size _).alloc (F14.alloc F14.size _).size _⟩ | with_reducible exact ⟨_, _, _, _, _, _, _, _, _, _, _, _, _, _, _, _, _, rfl, rfl, rfl, Sq_at (Sq.new _ _ _ _) (by simp), (Sq.new _ _ _ _).alloc _, (bx_14.alloc _).alloc _, (bu_14.alloc _).alloc _, (bv_14.alloc _).alloc _, (h_14.alloc _).alloc _, (yu_14.alloc _).alloc _, (yv_14.alloc _).alloc _, (rx_14.alloc _).alloc _, (ry.alloc _).alloc _, (F14.alloc F14.size _).alloc (F14.alloc F14.size _).size _⟩ | fail)
  case rest =>
    obtain ⟨W', gx, gy, s1_, A1_, n1_, c1_, B1_, m1_, d1_, s2_, A2_, n2_, c2_, B2_, m2_, d2_, rfl, rfl, rfl, hgx, hgy, bx_15, bu_15, bv_15, h_15, yu_15, yv_15, rx_15, ry_15, F15⟩ := hcut
    have bx_u15 := bx_15.cell0
    have bx_v15 := bx_15.cell1
    have bx_w15 := bx_15.cell2
    have bu_u15 := bu_15.cell0
    have bu_v15 := bu_15.cell1
    have bu_w15 := bu_15.cell2
    have bv_u15 := bv_15.cell0
    have bv_v15 := bv_15.cell1
    have bv_w15 := bv_15.cell2
    have qx_u15 := hgx.cell0
    have qx_v15 := hgx.cell1
    have qx_w15 := hgx.cell2
    have qy_u15 := hgy.cell0
    have qy_v15 := hgy.cell1
    have qy_w15 := hgy.cell2
    go_wp2_with fail
    refine (rcmp_q _ _ _ _ _ _ _ _ _ _ _ _ _ _ u q r1 _ H1.out rx_15.iq h_15 (Nat.le_trans (rx_15.ln a1) p14) (Nat.le_trans (rx_15.ld a2) p14) qn4 qm4).mono ?_
    rintro e w16 ⟨rfl, b16⟩
    have h_16 := h_15.below b16
    have rx_16 := rx_15.below b16
    have ry_16 := ry_15.below b16
    have bx_16 := bx_15.below b16 bx_15.lt
    have qx_16 := hgx.below b16 hgx.lt
    have qy_16 := hgy.below b16 hgy.lt
    have F16 := below_then F15 (Nat.le_refl _) b16
    have bx_u16 := bx_16.cell0
    have bx_v16 := bx_16.cell1
    have bx_w16 := bx_16.cell2
    have qx_u16 := qx_16.cell0
    have qx_v16 := qx_16.cell1
    have qx_w16 := qx_16.cell2
    have qy_u16 := qy_16.cell0
    have qy_v16 := qy_16.cell1
    have qy_w16 := qy_16.cell2
    go_wp2_with fail
    refine (rcmp_q _ _ _ _ _ _ _ _ _ _ _ _ _ _ q v r2 _ H2.out h_16 ry_16.iq qn4 qm4 (Nat.le_trans (ry_16.ln a3) p14) (Nat.le_trans (ry_16.ld a4) p14)).mono ?_
    rintro e w17 ⟨rfl, b17⟩
    have h_17 := h_16.below b17
    have rx_17 := rx_16.below b17
    have ry_17 := ry_16.below b17
    have bx_17 := bx_16.below b17 bx_16.lt
    have qx_17 := qx_16.below b17 qx_16.lt
    have qy_17 := qy_16.below b17 qy_16.lt
    have F17 := below_then F16 (Nat.le_refl _) b17
    have bx_u17 := bx_17.cell0
    have bx_v17 := bx_17.cell1
    have bx_w17 := bx_17.cell2
    have qx_u17 := qx_17.cell0
    have qx_v17 := qx_17.cell1
    have qx_w17 := qx_17.cell2
    have qy_u17 := qy_17.cell0
    have qy_v17 := qy_17.cell1
    have qy_w17 := qy_17.cell2
    go_wp2_with fail
    refine (ryexact _ _ _ _ _ _ _ q _ h_17 qn8 qm8 HI.out).mono ?_
    rintro e w18 ⟨s18, A18, n18, c18, x18, rfl, yd, b18⟩
    have h_18 := h_17.below b18
    have rx_18 := rx_17.below b18
    have ry_18 := ry_17.below b18
    have bx_18 := bx_17.below b18 bx_17.lt
    have qx_18 := qx_17.below b18 qx_17.lt
    have qy_18 := qy_17.below b18 qy_17.lt
    have F18 := below_then F17 (Nat.le_refl _) b18
    have bx_u18 := bx_18.cell0
    have bx_v18 := bx_18.cell1
    have bx_w18 := bx_18.cell2
    have qx_u18 := qx_18.cell0
    have qx_v18 := qx_18.cell1
    have qx_w18 := qx_18.cell2
    have qy_u18 := qy_18.cell0
    have qy_v18 := qy_18.cell1
    have qy_w18 := qy_18.cell2
    have lt_bd_bx := bx_18.lt
    have lt_bd_qx := qx_18.lt
    have lt_bd_qy := qy_18.lt
    have h_19 := h_18.alloc (EY s18 A18 n18 c18 x18)
    have rx_19 := rx_18.alloc (EY s18 A18 n18 c18 x18)
    have ry_19 := ry_18.alloc (EY s18 A18 n18 c18 x18)
    have yd_19 := yd.alloc (EY s18 A18 n18 c18 x18)
    have bx_19 := bx_18.alloc (EY s18 A18 n18 c18 x18)
    have qx_19 := qx_18.alloc (EY s18 A18 n18 c18 x18)
    have qy_19 := qy_18.alloc (EY s18 A18 n18 c18 x18)
    have bd_19 : Sy ((w18).alloc (EY s18 A18 n18 c18 x18)) (w18.heap.size) (.bool s18) (.slice A18 n18 c18) (.int .i64 x18) := by have h_ := Sy.new (w18) (.bool s18) (.slice A18 n18 c18) (.int .i64 x18); exact h_
    have F19 := F18.alloc F18.size (EY s18 A18 n18 c18 x18)
    have bx_u19 := bx_19.cell0
    have bx_v19 := bx_19.cell1
    have bx_w19 := bx_19.cell2
    have qx_u19 := qx_19.cell0
    have qx_v19 := qx_19.cell1
    have qx_w19 := qx_19.cell2
    have qy_u19 := qy_19.cell0
    have qy_v19 := qy_19.cell1
    have qy_w19 := qy_19.cell2
    have bd_u19 := bd_19.cell0
    have bd_v19 := bd_19.cell1
    have bd_w19 := bd_19.cell2
    have nd3 := Nat.le_trans (yd_19.ln mq) p3
    go_wp2_with fail
    have h_20 := h_19.drew
    have rx_20 := rx_19.drew
    have ry_20 := ry_19.drew
    have yd_20 := yd_19.drew
    have bx_20 := bx_19.drew
    have qx_20 := qx_19.drew
    have qy_20 := qy_19.drew
    have bd_20 := bd_19.drew
    have F20 := F19.drew
    go_region_held3 (fun w' => w'.cell? ⟨w.heap.size, 0, none⟩ = some (.bool s) ∧ w'.cell? ⟨w.heap.size, 1, none⟩ = some (.slice A n c) ∧ w'.cell? ⟨w.heap.size, 2, none⟩ = some (.slice B m d) ∧ w'.cell? ⟨gx, 0, none⟩ = some (.bool s1_) ∧ w'.cell? ⟨gx, 1, none⟩ = some (.slice A1_ n1_ c1_) ∧ w'.cell? ⟨gx, 2, none⟩ = some (.slice B1_ m1_ d1_) ∧ w'.cell? ⟨gy, 0, none⟩ = some (.bool s2_) ∧ w'.cell? ⟨gy, 1, none⟩ = some (.slice A2_ n2_ c2_) ∧ w'.cell? ⟨gy, 2, none⟩ = some (.slice B2_ m2_ d2_) ∧ w'.cell? ⟨w18.heap.size, 0, none⟩ = some (.bool s18) ∧ w'.cell? ⟨w18.heap.size, 1, none⟩ = some (.slice A18 n18 c18) ∧ w'.cell? ⟨w18.heap.size, 2, none⟩ = some (.int .i64 x18))
      (first
        | with_reducible exact ⟨bx_24.cell0, bx_24.cell1, bx_24.cell2, qx_24.cell0, qx_24.cell1, qx_24.cell2, qy_24.cell0, qy_24.cell1, qy_24.cell2, bd_24.cell0, bd_24.cell1, bd_24.cell2⟩
        | with_reducible exact ⟨bx_23.cell0, bx_23.cell1, bx_23.cell2, qx_23.cell0, qx_23.cell1, qx_23.cell2, qy_23.cell0, qy_23.cell1, qy_23.cell2, bd_23.cell0, bd_23.cell1, bd_23.cell2⟩
        | with_reducible exact ⟨bx_22.cell0, bx_22.cell1, bx_22.cell2, qx_22.cell0, qx_22.cell1, qx_22.cell2, qy_22.cell0, qy_22.cell1, qy_22.cell2, bd_22.cell0, bd_22.cell1, bd_22.cell2⟩
        | with_reducible exact ⟨bx_21.cell0, bx_21.cell1, bx_21.cell2, qx_21.cell0, qx_21.cell1, qx_21.cell2, qy_21.cell0, qy_21.cell1, qy_21.cell2, bd_21.cell0, bd_21.cell1, bd_21.cell2⟩
        | with_reducible exact ⟨bx_20.cell0, bx_20.cell1, bx_20.cell2, qx_20.cell0, qx_20.cell1, qx_20.cell2, qy_20.cell0, qy_20.cell1, qy_20.cell2, bd_20.cell0, bd_20.cell1, bd_20.cell2⟩
        | fail)
      (first
        | (go_at_call 30; (with_reducible refine (rcmp_q _ _ _ _ _ _ _ _ _ _ _ _ _ _ u q r1 _ H1.out rx_20.iq h_20 (Nat.le_trans (rx_20.ln a1) p14) (Nat.le_trans (rx_20.ld a2) p14) qn4 qm4).mono ?_); rintro e w21 ⟨rfl, b21⟩; have h_21 := h_20.below b21; have rx_21 := rx_20.below b21; have ry_21 := ry_20.below b21; have yd_21 := yd_20.below b21; have bx_21 := bx_20.below b21 bx_20.lt; have qx_21 := qx_20.below b21 qx_20.lt; have qy_21 := qy_20.below b21 qy_20.lt; have bd_21 := bd_20.below b21 bd_20.lt; have F21 := below_then F20 (Nat.le_refl _) b21)
        | (go_at_call 29; (with_reducible refine (rbits_bl _ _ _ _ _ (dm q) rq (val_dg _) HRQ.out yd_21.rd nd3).mono ?_); rintro e w22 ⟨rfl, b22⟩; have h_22 := h_21.below b22; have rx_22 := rx_21.below b22; have ry_22 := ry_21.below b22; have yd_22 := yd_21.below b22; have bx_22 := bx_21.below b22 bx_21.lt; have qx_22 := qx_21.below b22 qx_21.lt; have qy_22 := qy_21.below b22 qy_21.lt; have bd_22 := bd_21.below b22 bd_21.lt; have F22 := below_then F21 (Nat.le_refl _) b22)
        | (go_at_call 30; (with_reducible refine (rcmp_q _ _ _ _ _ _ _ _ _ _ _ _ _ _ u q r1 _ H1.out rx_22.iq h_22 (Nat.le_trans (rx_22.ln a1) p14) (Nat.le_trans (rx_22.ld a2) p14) qn4 qm4).mono ?_); rintro e w23 ⟨rfl, b23⟩; have h_23 := h_22.below b23; have rx_23 := rx_22.below b23; have ry_23 := ry_22.below b23; have yd_23 := yd_22.below b23; have bx_23 := bx_22.below b23 bx_22.lt; have qx_23 := qx_22.below b23 qx_22.lt; have qy_23 := qy_22.below b23 qy_22.lt; have bd_23 := bd_22.below b23 bd_22.lt; have F23 := below_then F22 (Nat.le_refl _) b23)
        | (go_at_call 30; (with_reducible refine (rcmp_q _ _ _ _ _ _ _ _ _ _ _ _ _ _ v q r3 _ H3.out ry_23.iq h_23 (Nat.le_trans (ry_23.ln a3) p14) (Nat.le_trans (ry_23.ld a4) p14) qn4 qm4).mono ?_); rintro e w24 ⟨rfl, b24⟩; have h_24 := h_23.below b24; have rx_24 := rx_23.below b24; have ry_24 := ry_23.below b24; have yd_24 := yd_23.below b24; have bx_24 := bx_23.below b24 bx_23.lt; have qx_24 := qx_23.below b24 qx_23.lt; have qy_24 := qy_23.below b24 qy_23.lt; have bd_24 := bd_23.below b24 bd_23.lt; have F24 := below_then F23 (Nat.le_refl _) b24)
        | fail)
    have bx_u24 := bx_24.cell0
    have bx_v24 := bx_24.cell1
    have bx_w24 := bx_24.cell2
    have qx_u24 := qx_24.cell0
    have qx_v24 := qx_24.cell1
    have qx_w24 := qx_24.cell2
    have qy_u24 := qy_24.cell0
    have qy_v24 := qy_24.cell1
    have qy_w24 := qy_24.cell2
    have bd_u24 := bd_24.cell0
    have bd_v24 := bd_24.cell1
    have bd_w24 := bd_24.cell2
    go_wp2_with fail
    refine (rsub_q _ _ _ _ _ _ _ _ _ _ _ _ _ _ v u (v - u) _ rfl ry_24.iq rx_24.iq (Nat.le_trans (ry_24.ln a3) p14) (Nat.le_trans (ry_24.ld a4) p14) (Nat.le_trans (rx_24.ln a1) p14) (Nat.le_trans (rx_24.ld a2) p14)).mono ?_
    rintro e w25 ⟨s25, A25, n25, c25, B25, m25, d25, rfl, wd, b25⟩
    have h_25 := h_24.below b25
    have rx_25 := rx_24.below b25
    have ry_25 := ry_24.below b25
    have bx_25 := bx_24.below b25 bx_24.lt
    have qx_25 := qx_24.below b25 qx_24.lt
    have qy_25 := qy_24.below b25 qy_24.lt
    have F25 := below_then F24 (Nat.le_refl _) b25
    have bx_u25 := bx_25.cell0
    have bx_v25 := bx_25.cell1
    have bx_w25 := bx_25.cell2
    have qx_u25 := qx_25.cell0
    have qx_v25 := qx_25.cell1
    have qx_w25 := qx_25.cell2
    have qy_u25 := qy_25.cell0
    have qy_v25 := qy_25.cell1
    have qy_w25 := qy_25.cell2
    have lt_bw_bx := bx_25.lt
    have lt_bw_qx := qx_25.lt
    have lt_bw_qy := qy_25.lt
    have h_26 := h_25.alloc (EQ s25 A25 n25 c25 B25 m25 d25)
    have rx_26 := rx_25.alloc (EQ s25 A25 n25 c25 B25 m25 d25)
    have ry_26 := ry_25.alloc (EQ s25 A25 n25 c25 B25 m25 d25)
    have wd_26 := wd.alloc (EQ s25 A25 n25 c25 B25 m25 d25)
    have bx_26 := bx_25.alloc (EQ s25 A25 n25 c25 B25 m25 d25)
    have qx_26 := qx_25.alloc (EQ s25 A25 n25 c25 B25 m25 d25)
    have qy_26 := qy_25.alloc (EQ s25 A25 n25 c25 B25 m25 d25)
    have bw_26 : Sq ((w25).alloc (EQ s25 A25 n25 c25 B25 m25 d25)) (w25.heap.size) (.bool s25) (.slice A25 n25 c25) (.slice B25 m25 d25) := by have h_ := Sq.new (w25) (.bool s25) (.slice A25 n25 c25) (.slice B25 m25 d25); exact h_
    have F26 := F25.alloc F25.size (EQ s25 A25 n25 c25 B25 m25 d25)
    have bx_u26 := bx_26.cell0
    have bx_v26 := bx_26.cell1
    have bx_w26 := bx_26.cell2
    have qx_u26 := qx_26.cell0
    have qx_v26 := qx_26.cell1
    have qx_w26 := qx_26.cell2
    have qy_u26 := qy_26.cell0
    have qy_v26 := qy_26.cell1
    have qy_w26 := qy_26.cell2
    have bw_u26 := bw_26.cell0
    have bw_v26 := bw_26.cell1
    have bw_w26 := bw_26.cell2
    go_wp2_with fail
    have h_27 := h_26.alloc (.cells #[.int .u32 1] 47)
    have wd_27 := wd_26.alloc (.cells #[.int .u32 1] 47)
    have bx_27 := bx_26.alloc (.cells #[.int .u32 1] 47)
    have bw_27 := bw_26.alloc (.cells #[.int .u32 1] 47)
    have F27 := F26.alloc F26.size (.cells #[.int .u32 1] 47)
    have one := rd_one ((w25).alloc (EQ s25 A25 n25 c25 B25 m25 d25)) 1 (by omega)
    simp only [World.size_alloc] at one
    have bx_u27 := bx_27.cell0
    have bx_v27 := bx_27.cell1
    have bx_w27 := bx_27.cell2
    have bw_u27 := bw_27.cell0
    have bw_v27 := bw_27.cell1
    have bw_w27 := bw_27.cell2
    refine (rShl_L _ _ _ [1] _ J (1 * 2 ^ J) L _ (by first | with_reducible rfl | exact HZJ.out) HX1.out HL.out one (by decide) HJ.out).mono ?_
    rintro e w28 ⟨A28, c28, rfl, pp, b28⟩
    have h_28 := h_27.below b28
    have wd_28 := wd_27.below b28
    have one_28 := one.below b28
    have bx_28 := bx_27.below b28 bx_27.lt
    have bw_28 := bw_27.below b28 bw_27.lt
    have F28 := below_then F27 (Nat.le_refl _) b28
    have bx_u28 := bx_28.cell0
    have bx_v28 := bx_28.cell1
    have bx_w28 := bx_28.cell2
    have bw_u28 := bw_28.cell0
    have bw_v28 := bw_28.cell1
    have bw_w28 := bw_28.cell2
    go_wp2_with fail
    refine (rcanon_q _ _ _ _ _ _ _ (qab q) _ (iq_abs h_28) qn16 qm16).mono ?_
    rintro e w29 ⟨s29, A29, n29, c29, B29, m29, d29, rfl, zc, b29⟩
    have h_29 := h_28.below b29
    have wd_29 := wd_28.below b29
    have pp_29 := pp.below b29
    have bx_29 := bx_28.below b29 bx_28.lt
    have bw_29 := bw_28.below b29 bw_28.lt
    have F29 := below_then F28 (Nat.le_refl _) b29
    have bx_u29 := bx_29.cell0
    have bx_v29 := bx_29.cell1
    have bx_w29 := bx_29.cell2
    have bw_u29 := bw_29.cell0
    have bw_v29 := bw_29.cell1
    have bw_w29 := bw_29.cell2
    have lt_bz_bx := bx_29.lt
    have lt_bz_bw := bw_29.lt
    have h_30 := h_29.alloc (EQ s29 A29 n29 c29 B29 m29 d29)
    have wd_30 := wd_29.alloc (EQ s29 A29 n29 c29 B29 m29 d29)
    have pp_30 := pp_29.alloc (EQ s29 A29 n29 c29 B29 m29 d29)
    have zc_30 := zc.alloc (EQ s29 A29 n29 c29 B29 m29 d29)
    have bx_30 := bx_29.alloc (EQ s29 A29 n29 c29 B29 m29 d29)
    have bw_30 := bw_29.alloc (EQ s29 A29 n29 c29 B29 m29 d29)
    have bz_30 : Sq ((w29).alloc (EQ s29 A29 n29 c29 B29 m29 d29)) (w29.heap.size) (.bool s29) (.slice A29 n29 c29) (.slice B29 m29 d29) := by have h_ := Sq.new (w29) (.bool s29) (.slice A29 n29 c29) (.slice B29 m29 d29); exact h_
    have F30 := F29.alloc F29.size (EQ s29 A29 n29 c29 B29 m29 d29)
    have bx_u30 := bx_30.cell0
    have bx_v30 := bx_30.cell1
    have bx_w30 := bx_30.cell2
    have bw_u30 := bw_30.cell0
    have bw_v30 := bw_30.cell1
    have bw_w30 := bw_30.cell2
    have bz_u30 := bz_30.cell0
    have bz_v30 := bz_30.cell1
    have bz_w30 := bz_30.cell2
    go_wp2_with fail
    have h_31 := h_30.drew
    have wd_31 := wd_30.drew
    have pp_31 := pp_30.drew
    have zc_31 := zc_30.drew
    have bx_31 := bx_30.drew
    have bw_31 := bw_30.drew
    have bz_31 := bz_30.drew
    have F31 := F30.drew
    go_region_held3 (fun w' => w'.cell? ⟨w25.heap.size, 0, none⟩ = some (.bool s25) ∧ w'.cell? ⟨w25.heap.size, 1, none⟩ = some (.slice A25 n25 c25) ∧ w'.cell? ⟨w25.heap.size, 2, none⟩ = some (.slice B25 m25 d25) ∧ w'.cell? ⟨w29.heap.size, 0, none⟩ = some (.bool s29) ∧ w'.cell? ⟨w29.heap.size, 1, none⟩ = some (.slice A29 n29 c29) ∧ w'.cell? ⟨w29.heap.size, 2, none⟩ = some (.slice B29 m29 d29))
      (first
        | with_reducible exact ⟨bw_33.cell0, bw_33.cell1, bw_33.cell2, bz_33.cell0, bz_33.cell1, bz_33.cell2⟩
        | with_reducible exact ⟨bw_32.cell0, bw_32.cell1, bw_32.cell2, bz_32.cell0, bz_32.cell1, bz_32.cell2⟩
        | with_reducible exact ⟨bw_31.cell0, bw_31.cell1, bw_31.cell2, bz_31.cell0, bz_31.cell1, bz_31.cell2⟩
        | fail)
      (first
        | (go_at_call 33; (with_reducible refine (rmul_q _ _ _ _ _ _ _ _ _ _ _ _ _ _ (v - u) ((2 ^ J : Nat) : Rat) _ _ rfl wd_31.iq (iq_pow pp_31) (Nat.le_trans (wd_31.ln a5) p29) (Nat.le_trans (wd_31.ld a6) p29) p4 p0).mono ?_); rintro e w32 ⟨s32, A32, n32, c32, B32, m32, d32, rfl, pr, b32⟩; have h_32 := h_31.below b32; have wd_32 := wd_31.below b32; have pp_32 := pp_31.below b32; have zc_32 := zc_31.below b32; have bx_32 := bx_31.below b32 bx_31.lt; have bw_32 := bw_31.below b32 bw_31.lt; have bz_32 := bz_31.below b32 bz_31.lt; have F32 := below_then F31 (Nat.le_refl _) b32)
        | (go_at_call 30; (with_reducible refine (rcmp_q _ _ _ _ _ _ _ _ _ _ _ _ _ _ _ (qab q) r5 _ H5.out pr.iq zc_32.iq (Nat.le_trans (pr.ln a7) p33) (Nat.le_trans (pr.ld a8) p33) (Nat.le_trans (zc_32.ln a9) p34) (Nat.le_trans (zc_32.ld a10) p34)).mono ?_); rintro e w33 ⟨rfl, b33⟩; have h_33 := h_32.below b33; have wd_33 := wd_32.below b33; have pp_33 := pp_32.below b33; have zc_33 := zc_32.below b33; have pr_33 := pr.below b33; have bx_33 := bx_32.below b33 bx_32.lt; have bw_33 := bw_32.below b33 bw_32.lt; have bz_33 := bz_32.below b33 bz_32.lt; have F33 := below_then F32 (Nat.le_refl _) b33)
        | fail)
    have bx_u33 := bx_33.cell0
    have bx_v33 := bx_33.cell1
    have bx_w33 := bx_33.cell2
    have bw_u33 := bw_33.cell0
    have bw_v33 := bw_33.cell1
    have bw_w33 := bw_33.cell2
    have bz_u33 := bz_33.cell0
    have bz_v33 := bz_33.cell1
    have bz_w33 := bz_33.cell2
    go_wp2
    go_ret
    exact ⟨rfl, F33⟩
set_option maxRecDepth 50000 in
set_option maxHeartbeats 8000000 in
theorem do_not (s : Bool) (A : Option Addr) (n c : Nat) (B : Option Addr) (m d : Nat) (o : Int) (q : Rat) (w : World) (ho : 0 ≤ o ∧ o < 256) (h : Iq w s A n c B m d q) (hn : n ≤ 3) (hm : m ≤ 3) (hi : ¬ Isd q) (T : Tb w) : Calls Tryd.prog 6 #[.agg #[.bool s, .slice A n c, .slice B m d], .int .u8 o] w (fun e w' => e = .returned (.bool true) ∧ Below w.heap.size w w') := by
  have ho1 : 0 ≤ o := ho.1
  have ho2 : o < 256 := ho.2
  obtain ⟨K, hK⟩ : ∃ K : Nat, o % 100 + 1 = (K : Int) := ⟨(o % 100 + 1).toNat, by omega⟩
  have hK1 : 1 ≤ K ∧ K ≤ 100 := by omega
  have w1 : IntKind.u8.wrap (o.tmod 100) = o % 100 := by rw [Int.tmod_eq_emod_of_nonneg ho.1]; (first | go_num | (simp [IntKind.wrap, IntKind.bits, IntKind.signed]; omega))
  have w2 : IntKind.i64.wrap (o % 100) = o % 100 := by (first | go_num | (simp [IntKind.wrap, IntKind.bits, IntKind.signed]; omega))
  have w3 : IntKind.i64.wrap (o % 100 + 1) = o % 100 + 1 := by (first | go_num | (simp [IntKind.wrap, IntKind.bits, IntKind.signed]; omega))
  have hs : Qs 3 q := h.size hn hm (by omega)
  have Tu := tq_qs false hs hK1.1 (by omega)
  have Tv := tq_qs true hs hK1.1 (by omega)
  have Du := tq_de (k := K) false hK1.1 hs
  have Dv := tq_de (k := K) true hK1.1 hs
  have Iu : Isd (tq q K false) := (dk_iff.1 (tq_dn q hK1.1).1).1
  have Iv : Isd (tq q K true) := (dk_iff.1 (tq_up q hK1.1).1).1
  have Su : Qs 14 (tq q K false) := qs_dy Iu Tu.2.1 (by decide) (by omega)
  have Sv : Qs 14 (tq q K true) := qs_dy Iv Tv.2.1 (by decide) (by omega)
  have Lu := tq_dm (q := q) (k := K) false hK1.1
  have Lv := tq_dm (q := q) (k := K) true hK1.1
  have Cu := le_sz (tq_dn q hK1.1).2.1
  have Cv := le_sz (tq_up q hK1.1).2.1
  have Ew := le_sz (width q hK1.1)
  obtain ⟨Eu, Ev⟩ := out_eq q hK1.1
  have Xu := sz_eq0 (a := tq q K false) (b := q)
  have Xv := sz_eq0 (a := tq q K true) (b := q)
  obtain ⟨u, hu⟩ : ∃ u, tq q K false = u := ⟨_, rfl⟩
  obtain ⟨v, hv⟩ : ∃ u, tq q K true = u := ⟨_, rfl⟩
  rw [hu] at Tu Du Iu Su Lu Cu Eu Xu Ew
  rw [hv] at Tv Dv Iv Sv Lv Cv Ev Xv Ew
  obtain ⟨ru, hru⟩ : ∃ r, bl (dm u) = r := ⟨_, rfl⟩
  obtain ⟨rv_, hrv⟩ : ∃ r, bl (dm v) = r := ⟨_, rfl⟩
  obtain ⟨rq, hrq⟩ : ∃ r, bl (dm q) = r := ⟨_, rfl⟩
  obtain ⟨r1, h1⟩ : ∃ r, sz (u - q).num = r := ⟨_, rfl⟩
  obtain ⟨r2, h2⟩ : ∃ r, sz (q - v).num = r := ⟨_, rfl⟩
  obtain ⟨r3, h3⟩ : ∃ r, sz (v - q).num = r := ⟨_, rfl⟩
  obtain ⟨J, hJ⟩ : ∃ J, K - 1 = J := ⟨_, rfl⟩
  rw [hJ] at Ew
  obtain ⟨r5, h5⟩ : ∃ r, sz ((v - u) * ((2 ^ J : Nat) : Rat) - qab q).num = r := ⟨_, rfl⟩
  rw [hru] at Lu
  rw [hrv] at Lv
  rw [hrq] at Eu Ev
  rw [h1] at Cu Xu
  rw [h2] at Cv
  rw [h3] at Xv
  rw [h5] at Ew
  have f1 : decide (o % 100 + 1 < (ru : Int)) = false := decide_eq_false (by omega)
  have f2 : decide (o % 100 + 1 < (rv_ : Int)) = false := decide_eq_false (by omega)
  have f3 : decide (0 < r1) = false := by rw [decide_eq_true_eq] at Cu; exact decide_eq_false (by omega)
  have f4 : decide (0 < r2) = false := by rw [decide_eq_true_eq] at Cv; exact decide_eq_false (by omega)
  have w5 : IntKind.i64.wrap (o % 100 + 1 - 1) = (J : Int) := by (first | (rw [show o % 100 + 1 - 1 = (J : Int) by omega]; (first | go_num | (simp [IntKind.wrap, IntKind.bits, IntKind.signed]; omega))))
  have g1 : (r1 == 0) = false := by rw [show (r1 == 0) = decide (r1 = 0) from rfl, Xu]; exact decide_eq_false fun hh => hi (Eu.1 hh).1
  have g3 : (r3 == 0) = false := by rw [show (r3 == 0) = decide (r3 = 0) from rfl, Xv]; exact decide_eq_false fun hh => hi (Ev.1 hh).1
  have SD_ := size_sub Sv Su
  have SP := size_mul SD_ (pow_qs J (by omega))
  have SA_ := qab_qs hs
  have a1 : u.num.natAbs < pw 14 := Su.1
  have a2 : u.den < pw 14 := Su.2
  have a3 : v.num.natAbs < pw 14 := Sv.1
  have a4 : v.den < pw 14 := Sv.2
  have a5 : (v - u).num.natAbs < pw 29 := SD_.1
  have a6 : (v - u).den < pw 29 := SD_.2
  have a7 : ((v - u) * ((2 ^ J : Nat) : Rat)).num.natAbs < pw 33 := SP.1
  have a8 : ((v - u) * ((2 ^ J : Nat) : Rat)).den < pw 33 := SP.2
  have a9 : (qab q).num.natAbs < pw 3 := SA_.1
  have a10 : (qab q).den < pw 3 := SA_.2
  have mu : dm u < pw 7 := Tu.2.1
  have mv : dm v < pw 7 := Tv.2.1
  have mq : dm q < pw 3 := Nat.lt_of_le_of_lt (odp_le _) hs.1
  obtain ⟨L, hL⟩ : ∃ L, (dg (1 * 2 ^ J)).length = L := ⟨_, rfl⟩
  have lL : L ≤ 4 := by rw [← hL]; exact dg_le (by rw [Nat.one_mul]; exact two_lt_pw (by omega))
  have HU := hide hu
  have HV := hide hv
  have HK := hide hK
  have HKK := hide (show 1 ≤ K ∧ K ≤ 200 by omega)
  have HRU := hide hru
  have HRV := hide hrv
  have HRQ := hide hrq
  have H1 := hide h1
  have H2 := hide h2
  have H3 := hide h3
  have H5 := hide h5
  have HL := hide hL
  have HI := hide hi
  have HDu := hide (show -256000 < de u ∧ de u < 256000 by omega)
  have HDv := hide (show -256000 < de v ∧ de v < 256000 by omega)
  have HDu2 := hide (show -1048576 ≤ de u ∧ de u ≤ 1048576 by omega)
  have HDv2 := hide (show -1048576 ≤ de v ∧ de v ≤ 1048576 by omega)
  have HJ := hide (show J ≤ 1048576 by omega)
  have HZJ := hide (show o % 100 = (J : Int) by omega)
  have HX1 := hide (show val [1] * 2 ^ J = 1 * 2 ^ J by simp [val])
  have qn4 : n ≤ 4000 := by omega
  have qm4 : m ≤ 4000 := by omega
  have qn8 : n ≤ 8000 := by omega
  have qm8 : m ≤ 8000 := by omega
  have qn16 : n ≤ 16384 := by omega
  have qm16 : m ≤ 16384 := by omega
  have p7 : 7 ≤ 8000 := by decide
  have p71 : 7 ≤ 1048576 := by decide
  have p3 : 3 ≤ 1048576 := by decide
  have p14 : 14 ≤ 4000 := by decide
  have p29 : 29 ≤ 4000 := by decide
  have p33 : 33 ≤ 4000 := by decide
  have p34 : 3 ≤ 4000 := by decide
  have p4 : L ≤ 4000 := by omega
  have p0 : 0 ≤ 4000 := by decide
  clear Tu Tv Du Dv Iu Iv Su Sv Lu Lv Cu Cv Eu Ev Xu Xv SD_ SP SA_ hu hv hK hru hrv hrq h1 h2 h3 h5 hL hi hs ho hK1 hJ lL
  have h_1 := h.alloc (EQ s A n c B m d)
  have T_1 := T.alloc (EQ s A n c B m d)
  have bx_1 : Sq ((w).alloc (EQ s A n c B m d)) (w.heap.size) (.bool s) (.slice A n c) (.slice B m d) := by have h_ := Sq.new (w) (.bool s) (.slice A n c) (.slice B m d); exact h_
  have F1 := (Below.refl w.heap.size w).alloc (Nat.le_refl _) (EQ s A n c B m d)
  go_enter Tryd.func6, Tryd.ntmps6
  go_wp2_with fail
  refine (awake5 _ T_1).mono ?_
  rintro e w2 ⟨rfl, b2⟩
  have h_2 := h_1.below b2
  have T_2 := T_1.below b2
  have bx_2 := bx_1.below b2 bx_1.lt
  have F2 := below_then F1 (Nat.le_refl _) b2
  have bx_u2 := bx_2.cell0
  have bx_v2 := bx_2.cell1
  have bx_w2 := bx_2.cell2
  go_wp2_with fail
  refine (few_yes _ _ _ _ _ _ _ _ hn hm).mono ?_
  rintro e w3 ⟨rfl, b3⟩
  have h_3 := h_2.below b3
  have T_3 := T_2.below b3
  have bx_3 := bx_2.below b3 bx_2.lt
  have F3 := below_then F2 (Nat.le_refl _) b3
  have bx_u3 := bx_3.cell0
  have bx_v3 := bx_3.cell1
  have bx_w3 := bx_3.cell2
  go_wp2_with fail
  refine (ydown_at _ _ _ _ _ _ _ K _ q u _ HU.out HK.out h_3 hn hm HKK.out T_3).mono ?_
  rintro e w4 ⟨s4, A4, n4, c4, x4, rfl, yu, b4⟩
  have h_4 := h_3.below b4
  have T_4 := T_3.below b4
  have bx_4 := bx_3.below b4 bx_3.lt
  have F4 := below_then F3 (Nat.le_refl _) b4
  have bx_u4 := bx_4.cell0
  have bx_v4 := bx_4.cell1
  have bx_w4 := bx_4.cell2
  have lt_bu_bx := bx_4.lt
  have h_5 := h_4.alloc (EY s4 A4 n4 c4 x4)
  have T_5 := T_4.alloc (EY s4 A4 n4 c4 x4)
  have yu_5 := yu.alloc (EY s4 A4 n4 c4 x4)
  have bx_5 := bx_4.alloc (EY s4 A4 n4 c4 x4)
  have bu_5 : Sy ((w4).alloc (EY s4 A4 n4 c4 x4)) (w4.heap.size) (.bool s4) (.slice A4 n4 c4) (.int .i64 x4) := by have h_ := Sy.new (w4) (.bool s4) (.slice A4 n4 c4) (.int .i64 x4); exact h_
  have F5 := F4.alloc F4.size (EY s4 A4 n4 c4 x4)
  have bx_u5 := bx_5.cell0
  have bx_v5 := bx_5.cell1
  have bx_w5 := bx_5.cell2
  have bu_u5 := bu_5.cell0
  have bu_v5 := bu_5.cell1
  have bu_w5 := bu_5.cell2
  go_wp2_with fail
  refine (yup_at _ _ _ _ _ _ _ K _ q v _ HV.out HK.out h_5 hn hm HKK.out T_5).mono ?_
  rintro e w6 ⟨s6, A6, n6, c6, x6, rfl, yv, b6⟩
  have h_6 := h_5.below b6
  have T_6 := T_5.below b6
  have yu_6 := yu_5.below b6
  have bx_6 := bx_5.below b6 bx_5.lt
  have bu_6 := bu_5.below b6 bu_5.lt
  have F6 := below_then F5 (Nat.le_refl _) b6
  have bx_u6 := bx_6.cell0
  have bx_v6 := bx_6.cell1
  have bx_w6 := bx_6.cell2
  have bu_u6 := bu_6.cell0
  have bu_v6 := bu_6.cell1
  have bu_w6 := bu_6.cell2
  have lt_bv_bx := bx_6.lt
  have lt_bv_bu := bu_6.lt
  have h_7 := h_6.alloc (EY s6 A6 n6 c6 x6)
  have T_7 := T_6.alloc (EY s6 A6 n6 c6 x6)
  have yu_7 := yu_6.alloc (EY s6 A6 n6 c6 x6)
  have yv_7 := yv.alloc (EY s6 A6 n6 c6 x6)
  have bx_7 := bx_6.alloc (EY s6 A6 n6 c6 x6)
  have bu_7 := bu_6.alloc (EY s6 A6 n6 c6 x6)
  have bv_7 : Sy ((w6).alloc (EY s6 A6 n6 c6 x6)) (w6.heap.size) (.bool s6) (.slice A6 n6 c6) (.int .i64 x6) := by have h_ := Sy.new (w6) (.bool s6) (.slice A6 n6 c6) (.int .i64 x6); exact h_
  have F7 := F6.alloc F6.size (EY s6 A6 n6 c6 x6)
  have bx_u7 := bx_7.cell0
  have bx_v7 := bx_7.cell1
  have bx_w7 := bx_7.cell2
  have bu_u7 := bu_7.cell0
  have bu_v7 := bu_7.cell1
  have bu_w7 := bu_7.cell2
  have bv_u7 := bv_7.cell0
  have bv_v7 := bv_7.cell1
  have bv_w7 := bv_7.cell2
  have HEU := hide (show x4 = de u from yu_7.2.2.1)
  have HEV := hide (show x6 = de v from yv_7.2.2.1)
  have nu7 := yu_7.ln mu
  have nv7 := yv_7.ln mv
  go_wp2_with fail
  refine (ryvalid_at _ _ _ _ _ _ true _ (cy_vb yu_7 (by rw [HEU.out]; exact HDu2.out)) yu_7.rd (Nat.le_trans nu7 p71)).mono ?_
  rintro e w8 ⟨rfl, b8⟩
  have h_8 := h_7.below b8
  have yu_8 := yu_7.below b8
  have yv_8 := yv_7.below b8
  have bx_8 := bx_7.below b8 bx_7.lt
  have bu_8 := bu_7.below b8 bu_7.lt
  have bv_8 := bv_7.below b8 bv_7.lt
  have F8 := below_then F7 (Nat.le_refl _) b8
  have bx_u8 := bx_8.cell0
  have bx_v8 := bx_8.cell1
  have bx_w8 := bx_8.cell2
  have bu_u8 := bu_8.cell0
  have bu_v8 := bu_8.cell1
  have bu_w8 := bu_8.cell2
  have bv_u8 := bv_8.cell0
  have bv_v8 := bv_8.cell1
  have bv_w8 := bv_8.cell2
  go_wp2_with fail
  refine (ryvalid_at _ _ _ _ _ _ true _ (cy_vb yv_8 (by rw [HEV.out]; exact HDv2.out)) yv_8.rd (Nat.le_trans nv7 p71)).mono ?_
  rintro e w9 ⟨rfl, b9⟩
  have h_9 := h_8.below b9
  have yu_9 := yu_8.below b9
  have yv_9 := yv_8.below b9
  have bx_9 := bx_8.below b9 bx_8.lt
  have bu_9 := bu_8.below b9 bu_8.lt
  have bv_9 := bv_8.below b9 bv_8.lt
  have F9 := below_then F8 (Nat.le_refl _) b9
  have bx_u9 := bx_9.cell0
  have bx_v9 := bx_9.cell1
  have bx_w9 := bx_9.cell2
  have bu_u9 := bu_9.cell0
  have bu_v9 := bu_9.cell1
  have bu_w9 := bu_9.cell2
  have bv_u9 := bv_9.cell0
  have bv_v9 := bv_9.cell1
  have bv_w9 := bv_9.cell2
  go_wp2_with fail
  refine (rbits_bl _ _ _ _ _ (dm u) ru (val_dg _) HRU.out yu_9.rd (Nat.le_trans nu7 p71)).mono ?_
  rintro e w10 ⟨rfl, b10⟩
  have h_10 := h_9.below b10
  have yu_10 := yu_9.below b10
  have yv_10 := yv_9.below b10
  have bx_10 := bx_9.below b10 bx_9.lt
  have bu_10 := bu_9.below b10 bu_9.lt
  have bv_10 := bv_9.below b10 bv_9.lt
  have F10 := below_then F9 (Nat.le_refl _) b10
  have bx_u10 := bx_10.cell0
  have bx_v10 := bx_10.cell1
  have bx_w10 := bx_10.cell2
  have bu_u10 := bu_10.cell0
  have bu_v10 := bu_10.cell1
  have bu_w10 := bu_10.cell2
  have bv_u10 := bv_10.cell0
  have bv_v10 := bv_10.cell1
  have bv_w10 := bv_10.cell2
  go_wp2_with fail
  refine (rbits_bl _ _ _ _ _ (dm v) rv_ (val_dg _) HRV.out yv_10.rd (Nat.le_trans nv7 p71)).mono ?_
  rintro e w11 ⟨rfl, b11⟩
  have h_11 := h_10.below b11
  have yu_11 := yu_10.below b11
  have yv_11 := yv_10.below b11
  have bx_11 := bx_10.below b11 bx_10.lt
  have bu_11 := bu_10.below b11 bu_10.lt
  have bv_11 := bv_10.below b11 bv_10.lt
  have F11 := below_then F10 (Nat.le_refl _) b11
  have bx_u11 := bx_11.cell0
  have bx_v11 := bx_11.cell1
  have bx_w11 := bx_11.cell2
  have bu_u11 := bu_11.cell0
  have bu_v11 := bu_11.cell1
  have bu_w11 := bu_11.cell2
  have bv_u11 := bv_11.cell0
  have bv_v11 := bv_11.cell1
  have bv_w11 := bv_11.cell2
  clear h_1 T_1 bx_1 F1 b2 h_2 T_2 bx_2 F2 bx_u2 bx_v2 bx_w2 b3 h_3 T_3 bx_3 F3 bx_u3 bx_v3 bx_w3 yu b4 h_4 T_4 bx_4 F4 bx_u4 bx_v4 bx_w4 lt_bu_bx h_5 T_5 yu_5 bx_5 bu_5 F5 bx_u5 bx_v5 bx_w5 bu_u5 bu_v5 bu_w5 yv b6 h_6 T_6 yu_6 bx_6 bu_6 F6 bx_u6 bx_v6 bx_w6 bu_u6 bu_v6 bu_w6 lt_bv_bx lt_bv_bu h_7 T_7 yu_7 yv_7 bx_7 bu_7 bv_7 F7 bx_u7 bx_v7 bx_w7 bu_u7 bu_v7 bu_w7 bv_u7 bv_v7 bv_w7 b8 h_8 yu_8 yv_8 bx_8 bu_8 bv_8 F8 bx_u8 bx_v8 bx_w8 bu_u8 bu_v8 bu_w8 bv_u8 bv_v8 bv_w8 b9 h_9 yu_9 yv_9 bx_9 bu_9 bv_9 F9 bx_u9 bx_v9 bx_w9 bu_u9 bu_v9 bu_w9 bv_u9 bv_v9 bv_w9 b10 h_10 yu_10 yv_10 bx_10 bu_10 bv_10 F10 bx_u10 bx_v10 bx_w10 bu_u10 bu_v10 bu_w10 bv_u10 bv_v10 bv_w10 b11 bx_u11 bx_v11 bx_w11 bu_u11 bu_v11 bu_w11 bv_u11 bv_v11 bv_w11
  go_upto_region 10 with fail
  go_cut [10, 11] (fun sx sy wy => ∃ (W' : World) (gx gy : Nat) (s1_ : Bool) (A1_ : Option Addr) (n1_ c1_ : Nat) (B1_ : Option Addr) (m1_ d1_ : Nat) (s2_ : Bool) (A2_ : Option Addr) (n2_ c2_ : Nat) (B2_ : Option Addr) (m2_ d2_ : Nat), W' = wy ∧ sx = .pointer (some ⟨gx, 0, none⟩) ∧ sy = .pointer (some ⟨gy, 0, none⟩) ∧ Sq W' gx (.bool s1_) (.slice A1_ n1_ c1_) (.slice B1_ m1_ d1_) ∧ Sq W' gy (.bool s2_) (.slice A2_ n2_ c2_) (.slice B2_ m2_ d2_) ∧ Sq W' (w.heap.size) (.bool s) (.slice A n c) (.slice B m d) ∧ Sy W' (w4.heap.size) (.bool s4) (.slice A4 n4 c4) (.int .i64 x4) ∧ Sy W' (w6.heap.size) (.bool s6) (.slice A6 n6 c6) (.int .i64 x6) ∧ Iq W' s A n c B m d q ∧ Cy W' s4 A4 n4 c4 x4 u ∧ Cy W' s6 A6 n6 c6 x6 v ∧ Cq W' s1_ A1_ n1_ c1_ B1_ m1_ d1_ u ∧ Cq W' s2_ A2_ n2_ c2_ B2_ m2_ d2_ v ∧ Below w.heap.size w W')
  case first =>
    have ltq_bx := bx_11.lt
    have ltq_bu := bu_11.lt
    have ltq_bv := bv_11.lt
    have glq := F11.size
    have nq1_ : w.heap.size ≠ w11.heap.size := by omega
    have nq2_ := Ne.symm nq1_
    have nq3_ : w.heap.size ≠ w11.heap.size + 1 := by omega
    have nq4_ := Ne.symm nq3_
    have h_12 := h_11.drew
    have yu_12 := yu_11.drew
    have yv_12 := yv_11.drew
    have bx_12 := bx_11.drew
    have bu_12 := bu_11.drew
    have bv_12 := bv_11.drew
    have F12 := F11.drew
    have h_y1 := h_11.alloc EQ0
    have yu_y1 := yu_11.alloc EQ0
    have yv_y1 := yv_11.alloc EQ0
    have bx_y1 := bx_11.alloc EQ0
    have bu_y1 := bu_11.alloc EQ0
    have bv_y1 := bv_11.alloc EQ0
    have zq1 : Sq ((w11).alloc EQ0) (w11.heap.size) (.bool false) (.slice none 0 0) (.slice none 0 0) := by have h_ := Sq.new (w11) (.bool false) (.slice none 0 0) (.slice none 0 0); exact h_
    have F_y1 := F11.alloc F11.size EQ0
    have h_d1 := h_y1.drew
    have yu_d1 := yu_y1.drew
    have yv_d1 := yv_y1.drew
    have bx_d1 := bx_y1.drew
    have bu_d1 := bu_y1.drew
    have bv_d1 := bv_y1.drew
    have z1_d1 := zq1.drew
    have F_d1 := F_y1.drew
    have h_y2 := h_y1.alloc EQ0
    have yu_y2 := yu_y1.alloc EQ0
    have yv_y2 := yv_y1.alloc EQ0
    have bx_y2 := bx_y1.alloc EQ0
    have bu_y2 := bu_y1.alloc EQ0
    have bv_y2 := bv_y1.alloc EQ0
    have zq12 := zq1.alloc EQ0
    have zq2 : Sq (((w11).alloc EQ0).alloc EQ0) (w11.heap.size + 1) (.bool false) (.slice none 0 0) (.slice none 0 0) := by have h_ := Sq.new ((w11).alloc EQ0) (.bool false) (.slice none 0 0) (.slice none 0 0); simp only [World.size_alloc] at h_; exact h_
    have F_y2 := F_y1.alloc F_y1.size EQ0
    have h_d2 := h_y2.drew
    have yu_d2 := yu_y2.drew
    have yv_d2 := yv_y2.drew
    have bx_d2 := bx_y2.drew
    have bu_d2 := bu_y2.drew
    have bv_d2 := bv_y2.drew
    have z1_d2 := zq12.drew
    have z2_d2 := zq2.drew
    have F_d2 := F_y2.drew
    have lz1_bx := Nat.ne_of_lt bx_11.lt
    have ly1_bx := Ne.symm lz1_bx
    have lz1_bu := Nat.ne_of_lt bu_11.lt
    have ly1_bu := Ne.symm lz1_bu
    have lz1_bv := Nat.ne_of_lt bv_11.lt
    have ly1_bv := Ne.symm lz1_bv
    have lz2_bx : w.heap.size ≠ w11.heap.size + 1 := by omega
    have ly2_bx := Ne.symm lz2_bx
    have lz2_bu : w4.heap.size ≠ w11.heap.size + 1 := by omega
    have ly2_bu := Ne.symm lz2_bu
    have lz2_bv : w6.heap.size ≠ w11.heap.size + 1 := by omega
    have ly2_bv := Ne.symm lz2_bv
    have gl1 : w.heap.size ≤ w11.heap.size := by have := F11.size; omega
    have gl2 : w.heap.size ≤ w11.heap.size + 1 := by have := F11.size; omega
    have lzz1_2 : w11.heap.size ≠ w11.heap.size + 1 := by omega
    have lyy1_2 := Ne.symm lzz1_2
    go_region_held3 (fun w' => w'.cell? ⟨w4.heap.size, 0, none⟩ = some (.bool s4) ∧ w'.cell? ⟨w4.heap.size, 1, none⟩ = some (.slice A4 n4 c4) ∧ w'.cell? ⟨w4.heap.size, 2, none⟩ = some (.int .i64 x4) ∧ w'.cell? ⟨w6.heap.size, 0, none⟩ = some (.bool s6) ∧ w'.cell? ⟨w6.heap.size, 1, none⟩ = some (.slice A6 n6 c6) ∧ w'.cell? ⟨w6.heap.size, 2, none⟩ = some (.int .i64 x6))
      (first
        | with_reducible exact ⟨((bu_14.alloc EQ0).alloc EQ0).cell0, ((bu_14.alloc EQ0).alloc EQ0).cell1, ((bu_14.alloc EQ0).alloc EQ0).cell2, ((bv_14.alloc EQ0).alloc EQ0).cell0, ((bv_14.alloc EQ0).alloc EQ0).cell1, ((bv_14.alloc EQ0).alloc EQ0).cell2⟩
        | with_reducible exact ⟨(bu_14.alloc EQ0).cell0, (bu_14.alloc EQ0).cell1, (bu_14.alloc EQ0).cell2, (bv_14.alloc EQ0).cell0, (bv_14.alloc EQ0).cell1, (bv_14.alloc EQ0).cell2⟩
        | with_reducible exact ⟨bu_14.cell0, bu_14.cell1, bu_14.cell2, bv_14.cell0, bv_14.cell1, bv_14.cell2⟩
        | with_reducible exact ⟨((bu_13.alloc EQ0).alloc EQ0).cell0, ((bu_13.alloc EQ0).alloc EQ0).cell1, ((bu_13.alloc EQ0).alloc EQ0).cell2, ((bv_13.alloc EQ0).alloc EQ0).cell0, ((bv_13.alloc EQ0).alloc EQ0).cell1, ((bv_13.alloc EQ0).alloc EQ0).cell2⟩
        | with_reducible exact ⟨(bu_13.alloc EQ0).cell0, (bu_13.alloc EQ0).cell1, (bu_13.alloc EQ0).cell2, (bv_13.alloc EQ0).cell0, (bv_13.alloc EQ0).cell1, (bv_13.alloc EQ0).cell2⟩
        | with_reducible exact ⟨bu_13.cell0, bu_13.cell1, bu_13.cell2, bv_13.cell0, bv_13.cell1, bv_13.cell2⟩
        | with_reducible exact ⟨bu_d2.cell0, bu_d2.cell1, bu_d2.cell2, bv_d2.cell0, bv_d2.cell1, bv_d2.cell2⟩
        | with_reducible exact ⟨bu_d1.cell0, bu_d1.cell1, bu_d1.cell2, bv_d1.cell0, bv_d1.cell1, bv_d1.cell2⟩
        | with_reducible exact ⟨bu_12.cell0, bu_12.cell1, bu_12.cell2, bv_12.cell0, bv_12.cell1, bv_12.cell2⟩
        | go_keep
        | fail)
      (first
        | (go_at_call 23; (with_reducible refine (ryrat _ _ _ _ _ u _ yu_12 (Nat.le_trans nu7 p7) (by rw [HEU.out]; exact HDu.out)).mono ?_); rintro e w13 ⟨s13, A13, n13, c13, B13, m13, d13, rfl, rx, b13⟩; have h_13 := h_12.below b13; have yu_13 := yu_12.below b13; have yv_13 := yv_12.below b13; have bx_13 := bx_12.below b13 bx_12.lt; have bu_13 := bu_12.below b13 bu_12.lt; have bv_13 := bv_12.below b13 bv_12.lt; have F13 := below_then F12 (Nat.le_refl _) b13)
        | (go_at_call 23; (with_reducible refine (ryrat _ _ _ _ _ u _ yu_d1 (Nat.le_trans nu7 p7) (by rw [HEU.out]; exact HDu.out)).mono ?_); rintro e w13 ⟨s13, A13, n13, c13, B13, m13, d13, rfl, rx, b13⟩; have h_13 := h_d1.below b13; have yu_13 := yu_d1.below b13; have yv_13 := yv_d1.below b13; have bx_13 := bx_d1.below b13 bx_d1.lt; have bu_13 := bu_d1.below b13 bu_d1.lt; have bv_13 := bv_d1.below b13 bv_d1.lt; have z1_13 := z1_d1.below b13 z1_d1.lt; have F13 := below_then F_d1 (Nat.le_refl _) b13)
        | (go_at_call 23; (with_reducible refine (ryrat _ _ _ _ _ u _ yu_d2 (Nat.le_trans nu7 p7) (by rw [HEU.out]; exact HDu.out)).mono ?_); rintro e w13 ⟨s13, A13, n13, c13, B13, m13, d13, rfl, rx, b13⟩; have h_13 := h_d2.below b13; have yu_13 := yu_d2.below b13; have yv_13 := yv_d2.below b13; have bx_13 := bx_d2.below b13 bx_d2.lt; have bu_13 := bu_d2.below b13 bu_d2.lt; have bv_13 := bv_d2.below b13 bv_d2.lt; have z1_13 := z1_d2.below b13 z1_d2.lt; have z2_13 := z2_d2.below b13 z2_d2.lt; have F13 := below_then F_d2 (Nat.le_refl _) b13)
        | (go_at_call 23; (with_reducible refine (ryrat _ _ _ _ _ v _ yv_13 (Nat.le_trans nv7 p7) (by rw [HEV.out]; exact HDv.out)).mono ?_); rintro e w14 ⟨s14, A14, n14, c14, B14, m14, d14, rfl, ry, b14⟩; have h_14 := h_13.below b14; have yu_14 := yu_13.below b14; have yv_14 := yv_13.below b14; have rx_14 := rx.below b14; have bx_14 := bx_13.below b14 bx_13.lt; have bu_14 := bu_13.below b14 bu_13.lt; have bv_14 := bv_13.below b14 bv_13.lt; have z1_14 := z1_13.below b14 z1_13.lt; have z2_14 := z2_13.below b14 z2_13.lt; have zk0_0 := z1_14.cell0; have zf0_0 := z1_14.frozen 0; have zk0_1 := z1_14.cell1; have zf0_1 := z1_14.frozen 1; have zk0_2 := z1_14.cell2; have zf0_2 := z1_14.frozen 2; have zk1_0 := z2_14.cell0; have zf1_0 := z2_14.frozen 0; have zk1_1 := z2_14.cell1; have zf1_1 := z2_14.frozen 1; have zk1_2 := z2_14.cell2; have zf1_2 := z2_14.frozen 2; have F14 := below_then F13 (Nat.le_refl _) b14; have kl_bx := bx_14.lt; have km_bx := Nat.ne_of_lt bx_14.lt; have kn_bx := Nat.ne_of_gt bx_14.lt; have kc_bx0 := bx_14.cell0; have kc_bx1 := bx_14.cell1; have kc_bx2 := bx_14.cell2; have kl_bu := bu_14.lt; have km_bu := Nat.ne_of_lt bu_14.lt; have kn_bu := Nat.ne_of_gt bu_14.lt; have kc_bu0 := bu_14.cell0; have kc_bu1 := bu_14.cell1; have kc_bu2 := bu_14.cell2; have kl_bv := bv_14.lt; have km_bv := Nat.ne_of_lt bv_14.lt; have kn_bv := Nat.ne_of_gt bv_14.lt; have kc_bv0 := bv_14.cell0; have kc_bv1 := bv_14.cell1; have kc_bv2 := bv_14.cell2; have kl0 := z1_14.lt; have km0 := Nat.ne_of_lt z1_14.lt; have kn0 := Nat.ne_of_gt z1_14.lt; have kl1 := z2_14.lt; have km1 := Nat.ne_of_lt z2_14.lt; have kn1 := Nat.ne_of_gt z2_14.lt)
        | (go_at_call 23; (with_reducible refine (ryrat _ _ _ _ _ v _ yv_13 (Nat.le_trans nv7 p7) (by rw [HEV.out]; exact HDv.out)).mono ?_); rintro e w14 ⟨s14, A14, n14, c14, B14, m14, d14, rfl, ry, b14⟩; have h_14 := h_13.below b14; have yu_14 := yu_13.below b14; have yv_14 := yv_13.below b14; have rx_14 := rx.below b14; have bx_14 := bx_13.below b14 bx_13.lt; have bu_14 := bu_13.below b14 bu_13.lt; have bv_14 := bv_13.below b14 bv_13.lt; have z1_14 := z1_13.below b14 z1_13.lt; have zk0_0 := z1_14.cell0; have zf0_0 := z1_14.frozen 0; have zk0_1 := z1_14.cell1; have zf0_1 := z1_14.frozen 1; have zk0_2 := z1_14.cell2; have zf0_2 := z1_14.frozen 2; have F14 := below_then F13 (Nat.le_refl _) b14; have kl_bx := bx_14.lt; have km_bx := Nat.ne_of_lt bx_14.lt; have kn_bx := Nat.ne_of_gt bx_14.lt; have kc_bx0 := bx_14.cell0; have kc_bx1 := bx_14.cell1; have kc_bx2 := bx_14.cell2; have kl_bu := bu_14.lt; have km_bu := Nat.ne_of_lt bu_14.lt; have kn_bu := Nat.ne_of_gt bu_14.lt; have kc_bu0 := bu_14.cell0; have kc_bu1 := bu_14.cell1; have kc_bu2 := bu_14.cell2; have kl_bv := bv_14.lt; have km_bv := Nat.ne_of_lt bv_14.lt; have kn_bv := Nat.ne_of_gt bv_14.lt; have kc_bv0 := bv_14.cell0; have kc_bv1 := bv_14.cell1; have kc_bv2 := bv_14.cell2; have kl0 := z1_14.lt; have km0 := Nat.ne_of_lt z1_14.lt; have kn0 := Nat.ne_of_gt z1_14.lt)
        | (have qx_bx := bx_13.lt; have qx_bu := bu_13.lt; have qx_bv := bv_13.lt; have qz_z1_13 := z1_13.lt; have lz2_bx : w.heap.size ≠ w13.heap.size := (by omega); have ly2_bx := Ne.symm lz2_bx; have lz2_bu : w4.heap.size ≠ w13.heap.size := (by omega); have ly2_bu := Ne.symm lz2_bu; have lz2_bv : w6.heap.size ≠ w13.heap.size := (by omega); have ly2_bv := Ne.symm lz2_bv; have gl2 : w.heap.size ≤ w13.heap.size := (by have := F13.size; omega); have lzz1_2 := Nat.ne_of_lt (Nat.lt_of_lt_of_le qz_z1_13 (show w13.heap.size ≤ w13.heap.size by omega)); have lyy1_2 := Ne.symm lzz1_2; have h_13a := h_13.alloc EQ0; have yu_13a := yu_13.alloc EQ0; have yv_13a := yv_13.alloc EQ0; have rx_13a := rx.alloc EQ0; have bx_13a := bx_13.alloc EQ0; have bu_13a := bu_13.alloc EQ0; have bv_13a := bv_13.alloc EQ0; have z1_13a := z1_13.alloc EQ0; have z2_13a : Sq ((w13).alloc EQ0) (w13.heap.size) (.bool false) (.slice none 0 0) (.slice none 0 0) := (by (have h_ := Sq.new (w13) (.bool false) (.slice none 0 0) (.slice none 0 0); exact h_)); have F_13a := F13.alloc F13.size EQ0; go_at_call 23; (with_reducible refine (ryrat _ _ _ _ _ v _ yv_13a (Nat.le_trans nv7 p7) (by rw [HEV.out]; exact HDv.out)).mono ?_); rintro e w14 ⟨s14, A14, n14, c14, B14, m14, d14, rfl, ry, b14⟩; have h_14 := h_13a.below b14; have yu_14 := yu_13a.below b14; have yv_14 := yv_13a.below b14; have rx_14 := rx_13a.below b14; have bx_14 := bx_13a.below b14 bx_13a.lt; have bu_14 := bu_13a.below b14 bu_13a.lt; have bv_14 := bv_13a.below b14 bv_13a.lt; have z1_14 := z1_13a.below b14 z1_13a.lt; have z2_14 := z2_13a.below b14 z2_13a.lt; have zk0_0 := z1_14.cell0; have zf0_0 := z1_14.frozen 0; have zk0_1 := z1_14.cell1; have zf0_1 := z1_14.frozen 1; have zk0_2 := z1_14.cell2; have zf0_2 := z1_14.frozen 2; have zk1_0 := z2_14.cell0; have zf1_0 := z2_14.frozen 0; have zk1_1 := z2_14.cell1; have zf1_1 := z2_14.frozen 1; have zk1_2 := z2_14.cell2; have zf1_2 := z2_14.frozen 2; have F14 := below_then F_13a (Nat.le_refl _) b14; have kl_bx := bx_14.lt; have km_bx := Nat.ne_of_lt bx_14.lt; have kn_bx := Nat.ne_of_gt bx_14.lt; have kc_bx0 := bx_14.cell0; have kc_bx1 := bx_14.cell1; have kc_bx2 := bx_14.cell2; have kl_bu := bu_14.lt; have km_bu := Nat.ne_of_lt bu_14.lt; have kn_bu := Nat.ne_of_gt bu_14.lt; have kc_bu0 := bu_14.cell0; have kc_bu1 := bu_14.cell1; have kc_bu2 := bu_14.cell2; have kl_bv := bv_14.lt; have km_bv := Nat.ne_of_lt bv_14.lt; have kn_bv := Nat.ne_of_gt bv_14.lt; have kc_bv0 := bv_14.cell0; have kc_bv1 := bv_14.cell1; have kc_bv2 := bv_14.cell2; have kl0 := z1_14.lt; have km0 := Nat.ne_of_lt z1_14.lt; have kn0 := Nat.ne_of_gt z1_14.lt; have kl1 := z2_14.lt; have km1 := Nat.ne_of_lt z2_14.lt; have kn1 := Nat.ne_of_gt z2_14.lt)
        | (go_at_call 23; (with_reducible refine (ryrat _ _ _ _ _ v _ yv_13 (Nat.le_trans nv7 p7) (by rw [HEV.out]; exact HDv.out)).mono ?_); rintro e w14 ⟨s14, A14, n14, c14, B14, m14, d14, rfl, ry, b14⟩; have h_14 := h_13.below b14; have yu_14 := yu_13.below b14; have yv_14 := yv_13.below b14; have rx_14 := rx.below b14; have bx_14 := bx_13.below b14 bx_13.lt; have bu_14 := bu_13.below b14 bu_13.lt; have bv_14 := bv_13.below b14 bv_13.lt; have F14 := below_then F13 (Nat.le_refl _) b14; have kl_bx := bx_14.lt; have km_bx := Nat.ne_of_lt bx_14.lt; have kn_bx := Nat.ne_of_gt bx_14.lt; have kc_bx0 := bx_14.cell0; have kc_bx1 := bx_14.cell1; have kc_bx2 := bx_14.cell2; have kl_bu := bu_14.lt; have km_bu := Nat.ne_of_lt bu_14.lt; have kn_bu := Nat.ne_of_gt bu_14.lt; have kc_bu0 := bu_14.cell0; have kc_bu1 := bu_14.cell1; have kc_bu2 := bu_14.cell2; have kl_bv := bv_14.lt; have km_bv := Nat.ne_of_lt bv_14.lt; have kn_bv := Nat.ne_of_gt bv_14.lt; have kc_bv0 := bv_14.cell0; have kc_bv1 := bv_14.cell1; have kc_bv2 := bv_14.cell2)
        | (have qx_bx := bx_13.lt; have qx_bu := bu_13.lt; have qx_bv := bv_13.lt; have lz1_bx : w.heap.size ≠ w13.heap.size := (by omega); have ly1_bx := Ne.symm lz1_bx; have lz1_bu : w4.heap.size ≠ w13.heap.size := (by omega); have ly1_bu := Ne.symm lz1_bu; have lz1_bv : w6.heap.size ≠ w13.heap.size := (by omega); have ly1_bv := Ne.symm lz1_bv; have gl1 : w.heap.size ≤ w13.heap.size := (by have := F13.size; omega); have h_13a := h_13.alloc EQ0; have yu_13a := yu_13.alloc EQ0; have yv_13a := yv_13.alloc EQ0; have rx_13a := rx.alloc EQ0; have bx_13a := bx_13.alloc EQ0; have bu_13a := bu_13.alloc EQ0; have bv_13a := bv_13.alloc EQ0; have z1_13a : Sq ((w13).alloc EQ0) (w13.heap.size) (.bool false) (.slice none 0 0) (.slice none 0 0) := (by (have h_ := Sq.new (w13) (.bool false) (.slice none 0 0) (.slice none 0 0); exact h_)); have F_13a := F13.alloc F13.size EQ0; go_at_call 23; (with_reducible refine (ryrat _ _ _ _ _ v _ yv_13a (Nat.le_trans nv7 p7) (by rw [HEV.out]; exact HDv.out)).mono ?_); rintro e w14 ⟨s14, A14, n14, c14, B14, m14, d14, rfl, ry, b14⟩; have h_14 := h_13a.below b14; have yu_14 := yu_13a.below b14; have yv_14 := yv_13a.below b14; have rx_14 := rx_13a.below b14; have bx_14 := bx_13a.below b14 bx_13a.lt; have bu_14 := bu_13a.below b14 bu_13a.lt; have bv_14 := bv_13a.below b14 bv_13a.lt; have z1_14 := z1_13a.below b14 z1_13a.lt; have zk0_0 := z1_14.cell0; have zf0_0 := z1_14.frozen 0; have zk0_1 := z1_14.cell1; have zf0_1 := z1_14.frozen 1; have zk0_2 := z1_14.cell2; have zf0_2 := z1_14.frozen 2; have F14 := below_then F_13a (Nat.le_refl _) b14; have kl_bx := bx_14.lt; have km_bx := Nat.ne_of_lt bx_14.lt; have kn_bx := Nat.ne_of_gt bx_14.lt; have kc_bx0 := bx_14.cell0; have kc_bx1 := bx_14.cell1; have kc_bx2 := bx_14.cell2; have kl_bu := bu_14.lt; have km_bu := Nat.ne_of_lt bu_14.lt; have kn_bu := Nat.ne_of_gt bu_14.lt; have kc_bu0 := bu_14.cell0; have kc_bu1 := bu_14.cell1; have kc_bu2 := bu_14.cell2; have kl_bv := bv_14.lt; have km_bv := Nat.ne_of_lt bv_14.lt; have kn_bv := Nat.ne_of_gt bv_14.lt; have kc_bv0 := bv_14.cell0; have kc_bv1 := bv_14.cell1; have kc_bv2 := bv_14.cell2; have kl0 := z1_14.lt; have km0 := Nat.ne_of_lt z1_14.lt; have kn0 := Nat.ne_of_gt z1_14.lt)
        | (have qx_bx := bx_13.lt; have qx_bu := bu_13.lt; have qx_bv := bv_13.lt; have lz1_bx : w.heap.size ≠ w13.heap.size := (by omega); have ly1_bx := Ne.symm lz1_bx; have lz1_bu : w4.heap.size ≠ w13.heap.size := (by omega); have ly1_bu := Ne.symm lz1_bu; have lz1_bv : w6.heap.size ≠ w13.heap.size := (by omega); have ly1_bv := Ne.symm lz1_bv; have gl1 : w.heap.size ≤ w13.heap.size := (by have := F13.size; omega); have h_13a := h_13.alloc EQ0; have yu_13a := yu_13.alloc EQ0; have yv_13a := yv_13.alloc EQ0; have rx_13a := rx.alloc EQ0; have bx_13a := bx_13.alloc EQ0; have bu_13a := bu_13.alloc EQ0; have bv_13a := bv_13.alloc EQ0; have z1_13a : Sq ((w13).alloc EQ0) (w13.heap.size) (.bool false) (.slice none 0 0) (.slice none 0 0) := (by (have h_ := Sq.new (w13) (.bool false) (.slice none 0 0) (.slice none 0 0); exact h_)); have F_13a := F13.alloc F13.size EQ0; have lz2_bx : w.heap.size ≠ w13.heap.size + 1 := (by omega); have ly2_bx := Ne.symm lz2_bx; have lz2_bu : w4.heap.size ≠ w13.heap.size + 1 := (by omega); have ly2_bu := Ne.symm lz2_bu; have lz2_bv : w6.heap.size ≠ w13.heap.size + 1 := (by omega); have ly2_bv := Ne.symm lz2_bv; have gl2 : w.heap.size ≤ w13.heap.size + 1 := (by have := F13.size; omega); have lzz1_2 : w13.heap.size ≠ w13.heap.size + 1 := (by omega); have lyy1_2 := Ne.symm lzz1_2; have h_13b := h_13a.alloc EQ0; have yu_13b := yu_13a.alloc EQ0; have yv_13b := yv_13a.alloc EQ0; have rx_13b := rx_13a.alloc EQ0; have bx_13b := bx_13a.alloc EQ0; have bu_13b := bu_13a.alloc EQ0; have bv_13b := bv_13a.alloc EQ0; have z1_13b := z1_13a.alloc EQ0; have z2_13b : Sq (((w13).alloc EQ0).alloc EQ0) (w13.heap.size + 1) (.bool false) (.slice none 0 0) (.slice none 0 0) := (by (have h_ := Sq.new ((w13).alloc EQ0) (.bool false) (.slice none 0 0) (.slice none 0 0); simp only [World.size_alloc] at h_; exact h_)); have F_13b := F_13a.alloc F_13a.size EQ0; go_at_call 23; (with_reducible refine (ryrat _ _ _ _ _ v _ yv_13b (Nat.le_trans nv7 p7) (by rw [HEV.out]; exact HDv.out)).mono ?_); rintro e w14 ⟨s14, A14, n14, c14, B14, m14, d14, rfl, ry, b14⟩; have h_14 := h_13b.below b14; have yu_14 := yu_13b.below b14; have yv_14 := yv_13b.below b14; have rx_14 := rx_13b.below b14; have bx_14 := bx_13b.below b14 bx_13b.lt; have bu_14 := bu_13b.below b14 bu_13b.lt; have bv_14 := bv_13b.below b14 bv_13b.lt; have z1_14 := z1_13b.below b14 z1_13b.lt; have z2_14 := z2_13b.below b14 z2_13b.lt; have zk0_0 := z1_14.cell0; have zf0_0 := z1_14.frozen 0; have zk0_1 := z1_14.cell1; have zf0_1 := z1_14.frozen 1; have zk0_2 := z1_14.cell2; have zf0_2 := z1_14.frozen 2; have zk1_0 := z2_14.cell0; have zf1_0 := z2_14.frozen 0; have zk1_1 := z2_14.cell1; have zf1_1 := z2_14.frozen 1; have zk1_2 := z2_14.cell2; have zf1_2 := z2_14.frozen 2; have F14 := below_then F_13b (Nat.le_refl _) b14; have kl_bx := bx_14.lt; have km_bx := Nat.ne_of_lt bx_14.lt; have kn_bx := Nat.ne_of_gt bx_14.lt; have kc_bx0 := bx_14.cell0; have kc_bx1 := bx_14.cell1; have kc_bx2 := bx_14.cell2; have kl_bu := bu_14.lt; have km_bu := Nat.ne_of_lt bu_14.lt; have kn_bu := Nat.ne_of_gt bu_14.lt; have kc_bu0 := bu_14.cell0; have kc_bu1 := bu_14.cell1; have kc_bu2 := bu_14.cell2; have kl_bv := bv_14.lt; have km_bv := Nat.ne_of_lt bv_14.lt; have kn_bv := Nat.ne_of_gt bv_14.lt; have kc_bv0 := bv_14.cell0; have kc_bv1 := bv_14.cell1; have kc_bv2 := bv_14.cell2; have kl0 := z1_14.lt; have km0 := Nat.ne_of_lt z1_14.lt; have kn0 := Nat.ne_of_gt z1_14.lt; have kl1 := z2_14.lt; have km1 := Nat.ne_of_lt z2_14.lt; have kn1 := Nat.ne_of_gt z2_14.lt)
        | fail)
    all_goals (go_wp2_with fail; go_meet; first | with_reducible exact ⟨_, _, _, _, _, _, _, _, _, _, _, _, _, _, _, _, _, rfl, rfl, rfl, z1_14.stor.past lzz1_2, (z2_14.past lyy1_2).stor, (bx_14.past lz1_bx).past lz2_bx, (bu_14.past lz1_bu).past lz2_bu, (bv_14.past lz1_bv).past lz2_bv, (h_14.storQ z1_14 (.bool s13) (.slice A13 n13 c13) (.slice B13 m13 d13)).storQ (z2_14.past lyy1_2) (.bool s14) (.slice A14 n14 c14) (.slice B14 m14 d14), (yu_14.storQ z1_14 (.bool s13) (.slice A13 n13 c13) (.slice B13 m13 d13)).storQ (z2_14.past lyy1_2) (.bool s14) (.slice A14 n14 c14) (.slice B14 m14 d14), (yv_14.storQ z1_14 (.bool s13) (.slice A13 n13 c13) (.slice B13 m13 d13)).storQ (z2_14.past lyy1_2) (.bool s14) (.slice A14 n14 c14) (.slice B14 m14 d14), (rx_14.storQ z1_14 (.bool s13) (.slice A13 n13 c13) (.slice B13 m13 d13)).storQ (z2_14.past lyy1_2) (.bool s14) (.slice A14 n14 c14) (.slice B14 m14 d14), (ry.storQ z1_14 (.bool s13) (.slice A13 n13 c13) (.slice B13 m13 d13)).storQ (z2_14.past lyy1_2) (.bool s14) (.slice A14 n14 c14) (.slice B14 m14 d14), below_storQ (below_storQ F14 gl1) gl2⟩ | with_reducible exact ⟨_, _, _, _, _, _, _, _, _, _, _, _, _, _, _, _, _, rfl, rfl, rfl, (z1_14.past lzz1_2).stor, z2_14.stor.past lyy1_2, (bx_14.past lz2_bx).past lz1_bx, (bu_14.past lz2_bu).past lz1_bu, (bv_14.past lz2_bv).past lz1_bv, (h_14.storQ z2_14 (.bool s14) (.slice A14 n14 c14) (.slice B14 m14 d14)).storQ (z1_14.past lzz1_2) (.bool s13) (.slice A13 n13 c13) (.slice B13 m13 d13), (yu_14.storQ z2_14 (.bool s14) (.slice A14 n14 c14) (.slice B14 m14 d14)).storQ (z1_14.past lzz1_2) (.bool s13) (.slice A13 n13 c13) (.slice B13 m13 d13), (yv_14.storQ z2_14 (.bool s14) (.slice A14 n14 c14) (.slice B14 m14 d14)).storQ (z1_14.past lzz1_2) (.bool s13) (.slice A13 n13 c13) (.slice B13 m13 d13), (rx_14.storQ z2_14 (.bool s14) (.slice A14 n14 c14) (.slice B14 m14 d14)).storQ (z1_14.past lzz1_2) (.bool s13) (.slice A13 n13 c13) (.slice B13 m13 d13), (ry.storQ z2_14 (.bool s14) (.slice A14 n14 c14) (.slice B14 m14 d14)).storQ (z1_14.past lzz1_2) (.bool s13) (.slice A13 n13 c13) (.slice B13 m13 d13), below_storQ (below_storQ F14 gl2) gl1⟩ | with_reducible exact ⟨_, _, _, _, _, _, _, _, _, _, _, _, _, _, _, _, _, rfl, rfl, rfl, z2_14.stor.past lyy1_2, (z1_14.past lzz1_2).stor, (bx_14.past lz2_bx).past lz1_bx, (bu_14.past lz2_bu).past lz1_bu, (bv_14.past lz2_bv).past lz1_bv, (h_14.storQ z2_14 (.bool s13) (.slice A13 n13 c13) (.slice B13 m13 d13)).storQ (z1_14.past lzz1_2) (.bool s14) (.slice A14 n14 c14) (.slice B14 m14 d14), (yu_14.storQ z2_14 (.bool s13) (.slice A13 n13 c13) (.slice B13 m13 d13)).storQ (z1_14.past lzz1_2) (.bool s14) (.slice A14 n14 c14) (.slice B14 m14 d14), (yv_14.storQ z2_14 (.bool s13) (.slice A13 n13 c13) (.slice B13 m13 d13)).storQ (z1_14.past lzz1_2) (.bool s14) (.slice A14 n14 c14) (.slice B14 m14 d14), (rx_14.storQ z2_14 (.bool s13) (.slice A13 n13 c13) (.slice B13 m13 d13)).storQ (z1_14.past lzz1_2) (.bool s14) (.slice A14 n14 c14) (.slice B14 m14 d14), (ry.storQ z2_14 (.bool s13) (.slice A13 n13 c13) (.slice B13 m13 d13)).storQ (z1_14.past lzz1_2) (.bool s14) (.slice A14 n14 c14) (.slice B14 m14 d14), below_storQ (below_storQ F14 gl2) gl1⟩ | with_reducible exact ⟨_, _, _, _, _, _, _, _, _, _, _, _, _, _, _, _, _, rfl, rfl, rfl, (z2_14.past lyy1_2).stor, z1_14.stor.past lzz1_2, (bx_14.past lz1_bx).past lz2_bx, (bu_14.past lz1_bu).past lz2_bu, (bv_14.past lz1_bv).past lz2_bv, (h_14.storQ z1_14 (.bool s14) (.slice A14 n14 c14) (.slice B14 m14 d14)).storQ (z2_14.past lyy1_2) (.bool s13) (.slice A13 n13 c13) (.slice B13 m13 d13), (yu_14.storQ z1_14 (.bool s14) (.slice A14 n14 c14) (.slice B14 m14 d14)).storQ (z2_14.past lyy1_2) (.bool s13) (.slice A13 n13 c13) (.slice B13 m13 d13), (yv_14.storQ z1_14 (.bool s14) (.slice A14 n14 c14) (.slice B14 m14 d14)).storQ (z2_14.past lyy1_2) (.bool s13) (.slice A13 n13 c13) (.slice B13 m13 d13), (rx_14.storQ z1_14 (.bool s14) (.slice A14 n14 c14) (.slice B14 m14 d14)).storQ (z2_14.past lyy1_2) (.bool s13) (.slice A13 n13 c13) (.slice B13 m13 d13), (ry.storQ z1_14 (.bool s14) (.slice A14 n14 c14) (.slice B14 m14 d14)).storQ (z2_14.past lyy1_2) (.bool s13) (.slice A13 n13 c13) (.slice B13 m13 d13), below_storQ (below_storQ F14 gl1) gl2⟩ | with_reducible exact ⟨_, _, _, _, _, _, _, _, _, _, _, _, _, _, _, _, _, rfl, rfl, rfl, (z1_14.stor).alloc _, Sq_at (Sq.new _ _ _ _) (by simp [World.setCell]), (bx_14.past lz1_bx).alloc _, (bu_14.past lz1_bu).alloc _, (bv_14.past lz1_bv).alloc _, (h_14.storQ z1_14 (.bool s13) (.slice A13 n13 c13) (.slice B13 m13 d13)).alloc _, (yu_14.storQ z1_14 (.bool s13) (.slice A13 n13 c13) (.slice B13 m13 d13)).alloc _, (yv_14.storQ z1_14 (.bool s13) (.slice A13 n13 c13) (.slice B13 m13 d13)).alloc _, (rx_14.storQ z1_14 (.bool s13) (.slice A13 n13 c13) (.slice B13 m13 d13)).alloc _, (ry.storQ z1_14 (.bool s13) (.slice A13 n13 c13) (.slice B13 m13 d13)).alloc _, (below_storQ F14 gl1).alloc (below_storQ F14 gl1).size _⟩ | with_reducible exact ⟨_, _, _, _, _, _, _, _, _, _, _, _, _, _, _, _, _, rfl, rfl, rfl, Sq_at (Sq.new _ _ _ _) (by simp [World.setCell]), (z1_14.stor).alloc _, (bx_14.past lz1_bx).alloc _, (bu_14.past lz1_bu).alloc _, (bv_14.past lz1_bv).alloc _, (h_14.storQ z1_14 (.bool s14) (.slice A14 n14 c14) (.slice B14 m14 d14)).alloc _, (yu_14.storQ z1_14 (.bool s14) (.slice A14 n14 c14) (.slice B14 m14 d14)).alloc _, (yv_14.storQ z1_14 (.bool s14) (.slice A14 n14 c14) (.slice B14 m14 d14)).alloc _, (rx_14.storQ z1_14 (.bool s14) (.slice A14 n14 c14) (.slice B14 m14 d14)).alloc _, (ry.storQ z1_14 (.bool s14) (.slice A14 n14 c14) (.slice B14 m14 d14)).alloc _, (below_storQ F14 gl1).alloc (below_storQ F14 gl1).size _⟩ | with_reducible exact ⟨_, _, _, _, _, _, _, _, _, _, _, _, _, _, _, _, _, rfl, rfl, rfl, (Sq.new _ _ _ _).alloc _, Sq_at (Sq.new _ _ _ _) (by simp), (bx_14.alloc _).alloc _, (bu_14.alloc _).alloc _, (bv_14.alloc _).alloc _, (h_14.alloc _).alloc _, (yu_14.alloc _).alloc _, (yv_14.alloc _).alloc _, (rx_14.alloc _).alloc _, (ry.alloc _).alloc _, (F14.alloc F14.size _).alloc (F14.alloc F14.size _).size _⟩ | with_reducible exact ⟨_, _, _, _, _, _, _, _, _, _, _, _, _, _, _, _, _, rfl, rfl, rfl, Sq_at (Sq.new _ _ _ _) (by simp), (Sq.new _ _ _ _).alloc _, (bx_14.alloc _).alloc _, (bu_14.alloc _).alloc _, (bv_14.alloc _).alloc _, (h_14.alloc _).alloc _, (yu_14.alloc _).alloc _, (yv_14.alloc _).alloc _, (rx_14.alloc _).alloc _, (ry.alloc _).alloc _, (F14.alloc F14.size _).alloc (F14.alloc F14.size _).size _⟩ | fail)
  case rest =>
    obtain ⟨W', gx, gy, s1_, A1_, n1_, c1_, B1_, m1_, d1_, s2_, A2_, n2_, c2_, B2_, m2_, d2_, rfl, rfl, rfl, hgx, hgy, bx_15, bu_15, bv_15, h_15, yu_15, yv_15, rx_15, ry_15, F15⟩ := hcut
    have bx_u15 := bx_15.cell0
    have bx_v15 := bx_15.cell1
    have bx_w15 := bx_15.cell2
    have bu_u15 := bu_15.cell0
    have bu_v15 := bu_15.cell1
    have bu_w15 := bu_15.cell2
    have bv_u15 := bv_15.cell0
    have bv_v15 := bv_15.cell1
    have bv_w15 := bv_15.cell2
    have qx_u15 := hgx.cell0
    have qx_v15 := hgx.cell1
    have qx_w15 := hgx.cell2
    have qy_u15 := hgy.cell0
    have qy_v15 := hgy.cell1
    have qy_w15 := hgy.cell2
    go_wp2_with fail
    refine (rcmp_q _ _ _ _ _ _ _ _ _ _ _ _ _ _ u q r1 _ H1.out rx_15.iq h_15 (Nat.le_trans (rx_15.ln a1) p14) (Nat.le_trans (rx_15.ld a2) p14) qn4 qm4).mono ?_
    rintro e w16 ⟨rfl, b16⟩
    have h_16 := h_15.below b16
    have rx_16 := rx_15.below b16
    have ry_16 := ry_15.below b16
    have bx_16 := bx_15.below b16 bx_15.lt
    have qx_16 := hgx.below b16 hgx.lt
    have qy_16 := hgy.below b16 hgy.lt
    have F16 := below_then F15 (Nat.le_refl _) b16
    have bx_u16 := bx_16.cell0
    have bx_v16 := bx_16.cell1
    have bx_w16 := bx_16.cell2
    have qx_u16 := qx_16.cell0
    have qx_v16 := qx_16.cell1
    have qx_w16 := qx_16.cell2
    have qy_u16 := qy_16.cell0
    have qy_v16 := qy_16.cell1
    have qy_w16 := qy_16.cell2
    go_wp2_with fail
    refine (rcmp_q _ _ _ _ _ _ _ _ _ _ _ _ _ _ q v r2 _ H2.out h_16 ry_16.iq qn4 qm4 (Nat.le_trans (ry_16.ln a3) p14) (Nat.le_trans (ry_16.ld a4) p14)).mono ?_
    rintro e w17 ⟨rfl, b17⟩
    have h_17 := h_16.below b17
    have rx_17 := rx_16.below b17
    have ry_17 := ry_16.below b17
    have bx_17 := bx_16.below b17 bx_16.lt
    have qx_17 := qx_16.below b17 qx_16.lt
    have qy_17 := qy_16.below b17 qy_16.lt
    have F17 := below_then F16 (Nat.le_refl _) b17
    have bx_u17 := bx_17.cell0
    have bx_v17 := bx_17.cell1
    have bx_w17 := bx_17.cell2
    have qx_u17 := qx_17.cell0
    have qx_v17 := qx_17.cell1
    have qx_w17 := qx_17.cell2
    have qy_u17 := qy_17.cell0
    have qy_v17 := qy_17.cell1
    have qy_w17 := qy_17.cell2
    go_wp2_with fail
    refine (ryexact_not _ _ _ _ _ _ _ q _ h_17 qn8 qm8 HI.out).mono ?_
    rintro e w18 ⟨s18, A18, n18, c18, x18, rfl, yd, b18⟩
    have h_18 := h_17.below b18
    have rx_18 := rx_17.below b18
    have ry_18 := ry_17.below b18
    have bx_18 := bx_17.below b18 bx_17.lt
    have qx_18 := qx_17.below b18 qx_17.lt
    have qy_18 := qy_17.below b18 qy_17.lt
    have F18 := below_then F17 (Nat.le_refl _) b18
    have bx_u18 := bx_18.cell0
    have bx_v18 := bx_18.cell1
    have bx_w18 := bx_18.cell2
    have qx_u18 := qx_18.cell0
    have qx_v18 := qx_18.cell1
    have qx_w18 := qx_18.cell2
    have qy_u18 := qy_18.cell0
    have qy_v18 := qy_18.cell1
    have qy_w18 := qy_18.cell2
    have lt_bd_bx := bx_18.lt
    have lt_bd_qx := qx_18.lt
    have lt_bd_qy := qy_18.lt
    have h_19 := h_18.alloc (EY s18 A18 n18 c18 x18)
    have rx_19 := rx_18.alloc (EY s18 A18 n18 c18 x18)
    have ry_19 := ry_18.alloc (EY s18 A18 n18 c18 x18)
    have yd_19 := yd.alloc (EY s18 A18 n18 c18 x18)
    have bx_19 := bx_18.alloc (EY s18 A18 n18 c18 x18)
    have qx_19 := qx_18.alloc (EY s18 A18 n18 c18 x18)
    have qy_19 := qy_18.alloc (EY s18 A18 n18 c18 x18)
    have bd_19 : Sy ((w18).alloc (EY s18 A18 n18 c18 x18)) (w18.heap.size) (.bool s18) (.slice A18 n18 c18) (.int .i64 x18) := by have h_ := Sy.new (w18) (.bool s18) (.slice A18 n18 c18) (.int .i64 x18); exact h_
    have F19 := F18.alloc F18.size (EY s18 A18 n18 c18 x18)
    have bx_u19 := bx_19.cell0
    have bx_v19 := bx_19.cell1
    have bx_w19 := bx_19.cell2
    have qx_u19 := qx_19.cell0
    have qx_v19 := qx_19.cell1
    have qx_w19 := qx_19.cell2
    have qy_u19 := qy_19.cell0
    have qy_v19 := qy_19.cell1
    have qy_w19 := qy_19.cell2
    have bd_u19 := bd_19.cell0
    have bd_v19 := bd_19.cell1
    have bd_w19 := bd_19.cell2
    go_wp2_with fail
    have h_20 := h_19.drew
    have rx_20 := rx_19.drew
    have ry_20 := ry_19.drew
    have yd_20 := yd_19.drew
    have bx_20 := bx_19.drew
    have qx_20 := qx_19.drew
    have qy_20 := qy_19.drew
    have bd_20 := bd_19.drew
    have F20 := F19.drew
    refine wp_region_held_drew (S := fun w' => w'.cell? ⟨w.heap.size, 0, none⟩ = some (.bool s) ∧ w'.cell? ⟨w.heap.size, 1, none⟩ = some (.slice A n c) ∧ w'.cell? ⟨w.heap.size, 2, none⟩ = some (.slice B m d) ∧ w'.cell? ⟨gx, 0, none⟩ = some (.bool s1_) ∧ w'.cell? ⟨gx, 1, none⟩ = some (.slice A1_ n1_ c1_) ∧ w'.cell? ⟨gx, 2, none⟩ = some (.slice B1_ m1_ d1_) ∧ w'.cell? ⟨gy, 0, none⟩ = some (.bool s2_) ∧ w'.cell? ⟨gy, 1, none⟩ = some (.slice A2_ n2_ c2_) ∧ w'.cell? ⟨gy, 2, none⟩ = some (.slice B2_ m2_ d2_) ∧ w'.cell? ⟨w18.heap.size, 0, none⟩ = some (.bool s18) ∧ w'.cell? ⟨w18.heap.size, 1, none⟩ = some (.slice A18 n18 c18) ∧ w'.cell? ⟨w18.heap.size, 2, none⟩ = some (.int .i64 x18)) (by kernel_rfl) ?_ (fun hHeld => ?_)
    · (try dsimp only); exact ⟨bx_20.cell0, bx_20.cell1, bx_20.cell2, qx_20.cell0, qx_20.cell1, qx_20.cell2, qy_20.cell0, qy_20.cell1, qy_20.cell2, bd_20.cell0, bd_20.cell1, bd_20.cell2⟩
    refine wpAnyH_take (i := 0) (v := ?_) rfl (by kernel_rfl) (by kernel_rfl) (by kernel_rfl) (fun _ _ _ h => h) (Or.inl ⟨by rfl, ?_⟩) (by assumption) ?_
    rotate_left 1
    · (intro w9 hSw; (try dsimp only at hSw); go_simp; try with_reducible rfl)
    try simp only [Act.put, List.getElem_toArray, List.getElem_cons_succ, List.getElem_cons_zero, List.setIfInBounds_toArray, List.set_cons_zero, List.set_cons_succ]
    refine wpAnyH_take (i := 1) (v := ?_) rfl (by kernel_rfl) (by kernel_rfl) (by kernel_rfl) (fun _ _ _ h => h) (Or.inl ⟨by rfl, ?_⟩) (by assumption) ?_
    rotate_left 1
    · (intro w9 hSw; (try dsimp only at hSw); go_simp; try with_reducible rfl)
    try simp only [Act.put, List.getElem_toArray, List.getElem_cons_succ, List.getElem_cons_zero, List.setIfInBounds_toArray, List.set_cons_zero, List.set_cons_succ]
    refine wpAnyH_take (i := 4) (v := ?_) rfl (by kernel_rfl) (by kernel_rfl) (by kernel_rfl) (fun _ _ _ h => h) (Or.inl ⟨by rfl, ?_⟩) (by assumption) ?_
    rotate_left 1
    · (intro w9 hSw; (try dsimp only at hSw); go_simp; try with_reducible rfl)
    try simp only [Act.put, List.getElem_toArray, List.getElem_cons_succ, List.getElem_cons_zero, List.setIfInBounds_toArray, List.set_cons_zero, List.set_cons_succ]
    refine wpAnyH_ready (rs := [2]) (by kernel_rfl) (by simp) ?_
    refine AllReadyH.cons rfl (fun K hK => ?_) AllReadyH.nil
    go_simp
    go_at_call 30
    with_reducible refine (rcmp_q _ _ _ _ _ _ _ _ _ _ _ _ _ _ u q r1 _ H1.out rx_20.iq h_20 (Nat.le_trans (rx_20.ln a1) p14) (Nat.le_trans (rx_20.ld a2) p14) qn4 qm4).mono ?_
    rintro e w21 ⟨rfl, b21⟩
    have h_21 := h_20.below b21
    have rx_21 := rx_20.below b21
    have ry_21 := ry_20.below b21
    have yd_21 := yd_20.below b21
    have bx_21 := bx_20.below b21 bx_20.lt
    have qx_21 := qx_20.below b21 qx_20.lt
    have qy_21 := qy_20.below b21 qy_20.lt
    have bd_21 := bd_20.below b21 bd_20.lt
    have F21 := below_then F20 (Nat.le_refl _) b21
    try dsimp only
    refine hK.out _ _ ?_ (fun hHeld => ?_)
    · (try dsimp only); exact ⟨bx_21.cell0, bx_21.cell1, bx_21.cell2, qx_21.cell0, qx_21.cell1, qx_21.cell2, qy_21.cell0, qy_21.cell1, qy_21.cell2, bd_21.cell0, bd_21.cell1, bd_21.cell2⟩
    clear hK K
    try simp only [Act.put, List.getElem_toArray, List.getElem_cons_succ, List.getElem_cons_zero, List.setIfInBounds_toArray, List.set_cons_zero, List.set_cons_succ]
    refine wpAnyH_take (i := 3) (v := ?_) rfl (by kernel_rfl) (by kernel_rfl) (by kernel_rfl) (fun _ _ _ h => h) (Or.inl ⟨by rfl, ?_⟩) (by assumption) ?_
    rotate_left 1
    · (intro w9 hSw; (try dsimp only at hSw); go_simp; try with_reducible rfl)
    try simp only [Act.put, List.getElem_toArray, List.getElem_cons_succ, List.getElem_cons_zero, List.setIfInBounds_toArray, List.set_cons_zero, List.set_cons_succ]
    refine wpAnyH_take (i := 5) (v := ?_) rfl (by kernel_rfl) (by kernel_rfl) (by kernel_rfl) (fun _ _ _ h => h) (Or.inl ⟨by rfl, ?_⟩) (by assumption) ?_
    rotate_left 1
    · (intro w9 hSw; (try dsimp only at hSw); go_simp; try with_reducible rfl)
    try simp only [Act.put, List.getElem_toArray, List.getElem_cons_succ, List.getElem_cons_zero, List.setIfInBounds_toArray, List.set_cons_zero, List.set_cons_succ]
    refine wpAnyH_take (i := 6) (v := undef) rfl (by kernel_rfl) (by kernel_rfl) (by kernel_rfl) (fun _ _ _ h => h) (Or.inr ⟨by rfl, rfl⟩) (by assumption) ?_
    try simp only [Act.put, List.getElem_toArray, List.getElem_cons_succ, List.getElem_cons_zero, List.setIfInBounds_toArray, List.set_cons_zero, List.set_cons_succ]
    refine wpAnyH_take (i := 7) (v := undef) rfl (by kernel_rfl) (by kernel_rfl) (by kernel_rfl) (fun _ _ _ h => h) (Or.inr ⟨by rfl, rfl⟩) (by assumption) ?_
    try simp only [Act.put, List.getElem_toArray, List.getElem_cons_succ, List.getElem_cons_zero, List.setIfInBounds_toArray, List.set_cons_zero, List.set_cons_succ]
    refine wpAnyH_take (i := 8) (v := undef) rfl (by kernel_rfl) (by kernel_rfl) (by kernel_rfl) (fun _ _ _ h => h) (Or.inr ⟨by rfl, rfl⟩) (by assumption) ?_
    try simp only [Act.put, List.getElem_toArray, List.getElem_cons_succ, List.getElem_cons_zero, List.setIfInBounds_toArray, List.set_cons_zero, List.set_cons_succ]
    refine wpAnyH_take (i := 9) (v := undef) rfl (by kernel_rfl) (by kernel_rfl) (by kernel_rfl) (fun _ _ _ h => h) (Or.inr ⟨by rfl, rfl⟩) (by assumption) ?_
    try simp only [Act.put, List.getElem_toArray, List.getElem_cons_succ, List.getElem_cons_zero, List.setIfInBounds_toArray, List.set_cons_zero, List.set_cons_succ]
    refine wpAnyH_take (i := 10) (v := undef) rfl (by kernel_rfl) (by kernel_rfl) (by kernel_rfl) (fun _ _ _ h => h) (Or.inr ⟨by rfl, rfl⟩) (by assumption) ?_
    try simp only [Act.put, List.getElem_toArray, List.getElem_cons_succ, List.getElem_cons_zero, List.setIfInBounds_toArray, List.set_cons_zero, List.set_cons_succ]
    refine wpAnyH_take (i := 11) (v := ?_) rfl (by kernel_rfl) (by kernel_rfl) (by kernel_rfl) (fun _ _ _ h => h) (Or.inl ⟨by rfl, ?_⟩) (by assumption) ?_
    rotate_left 1
    · (intro w9 hSw; (try dsimp only at hSw); go_simp; try with_reducible rfl)
    try simp only [Act.put, List.getElem_toArray, List.getElem_cons_succ, List.getElem_cons_zero, List.setIfInBounds_toArray, List.set_cons_zero, List.set_cons_succ]
    refine wpAnyH_take (i := 12) (v := ?_) rfl (by kernel_rfl) (by kernel_rfl) (by kernel_rfl) (fun _ _ _ h => h) (Or.inl ⟨by rfl, ?_⟩) (by assumption) ?_
    rotate_left 1
    · (intro w9 hSw; (try dsimp only at hSw); go_simp; try with_reducible rfl)
    try simp only [Act.put, List.getElem_toArray, List.getElem_cons_succ, List.getElem_cons_zero, List.setIfInBounds_toArray, List.set_cons_zero, List.set_cons_succ]
    refine wpAnyH_take (i := 13) (v := ?_) rfl (by kernel_rfl) (by kernel_rfl) (by kernel_rfl) (fun _ _ _ h => h) (Or.inl ⟨by rfl, ?_⟩) (by assumption) ?_
    rotate_left 1
    · (intro w9 hSw; (try dsimp only at hSw); go_simp; try with_reducible rfl)
    try simp only [Act.put, List.getElem_toArray, List.getElem_cons_succ, List.getElem_cons_zero, List.setIfInBounds_toArray, List.set_cons_zero, List.set_cons_succ]
    refine wpAnyH_take (i := 14) (v := ?_) rfl (by kernel_rfl) (by kernel_rfl) (by kernel_rfl) (fun _ _ _ h => h) (Or.inl ⟨by rfl, ?_⟩) (by assumption) ?_
    rotate_left 1
    · (intro w9 hSw; (try dsimp only at hSw); go_simp; try with_reducible rfl)
    try simp only [Act.put, List.getElem_toArray, List.getElem_cons_succ, List.getElem_cons_zero, List.setIfInBounds_toArray, List.set_cons_zero, List.set_cons_succ]
    refine wpAnyH_take (i := 15) (v := ?_) rfl (by kernel_rfl) (by kernel_rfl) (by kernel_rfl) (fun _ _ _ h => h) (Or.inl ⟨by rfl, ?_⟩) (by assumption) ?_
    rotate_left 1
    · (intro w9 hSw; (try dsimp only at hSw); go_simp; try with_reducible rfl)
    try simp only [Act.put, List.getElem_toArray, List.getElem_cons_succ, List.getElem_cons_zero, List.setIfInBounds_toArray, List.set_cons_zero, List.set_cons_succ]
    refine wpAnyH_take (i := 18) (v := ?_) rfl (by kernel_rfl) (by kernel_rfl) (by kernel_rfl) (fun _ _ _ h => h) (Or.inl ⟨by rfl, ?_⟩) (by assumption) ?_
    rotate_left 1
    · (intro w9 hSw; (try dsimp only at hSw); go_simp; try with_reducible rfl)
    try simp only [Act.put, List.getElem_toArray, List.getElem_cons_succ, List.getElem_cons_zero, List.setIfInBounds_toArray, List.set_cons_zero, List.set_cons_succ]
    refine wpAnyH_take (i := 19) (v := ?_) rfl (by kernel_rfl) (by kernel_rfl) (by kernel_rfl) (fun _ _ _ h => h) (Or.inl ⟨by rfl, ?_⟩) (by assumption) ?_
    rotate_left 1
    · (intro w9 hSw; (try dsimp only at hSw); go_simp; try with_reducible rfl)
    try simp only [Act.put, List.getElem_toArray, List.getElem_cons_succ, List.getElem_cons_zero, List.setIfInBounds_toArray, List.set_cons_zero, List.set_cons_succ]
    refine wpAnyH_ready (rs := [16]) (by kernel_rfl) (by simp) ?_
    refine AllReadyH.cons rfl (fun K hK => ?_) AllReadyH.nil
    go_simp
    go_at_call 30
    with_reducible refine (rcmp_q _ _ _ _ _ _ _ _ _ _ _ _ _ _ u q r1 _ H1.out rx_21.iq h_21 (Nat.le_trans (rx_21.ln a1) p14) (Nat.le_trans (rx_21.ld a2) p14) qn4 qm4).mono ?_
    rintro e w22 ⟨rfl, b22⟩
    have h_22 := h_21.below b22
    have rx_22 := rx_21.below b22
    have ry_22 := ry_21.below b22
    have yd_22 := yd_21.below b22
    have bx_22 := bx_21.below b22 bx_21.lt
    have qx_22 := qx_21.below b22 qx_21.lt
    have qy_22 := qy_21.below b22 qy_21.lt
    have bd_22 := bd_21.below b22 bd_21.lt
    have F22 := below_then F21 (Nat.le_refl _) b22
    try dsimp only
    refine hK.out _ _ ?_ (fun hHeld => ?_)
    · (try dsimp only); exact ⟨bx_22.cell0, bx_22.cell1, bx_22.cell2, qx_22.cell0, qx_22.cell1, qx_22.cell2, qy_22.cell0, qy_22.cell1, qy_22.cell2, bd_22.cell0, bd_22.cell1, bd_22.cell2⟩
    clear hK K
    try simp only [Act.put, List.getElem_toArray, List.getElem_cons_succ, List.getElem_cons_zero, List.setIfInBounds_toArray, List.set_cons_zero, List.set_cons_succ]
    refine wpAnyH_take (i := 17) (v := ?_) rfl (by kernel_rfl) (by kernel_rfl) (by kernel_rfl) (fun _ _ _ h => h) (Or.inl ⟨by rfl, ?_⟩) (by assumption) ?_
    rotate_left 1
    · (intro w9 hSw; (try dsimp only at hSw); go_simp; try with_reducible rfl)
    try simp only [Act.put, List.getElem_toArray, List.getElem_cons_succ, List.getElem_cons_zero, List.setIfInBounds_toArray, List.set_cons_zero, List.set_cons_succ]
    refine wpAnyH_ready (rs := [20]) (by kernel_rfl) (by simp) ?_
    refine AllReadyH.cons rfl (fun K hK => ?_) AllReadyH.nil
    go_simp
    go_at_call 30
    with_reducible refine (rcmp_q _ _ _ _ _ _ _ _ _ _ _ _ _ _ v q r3 _ H3.out ry_22.iq h_22 (Nat.le_trans (ry_22.ln a3) p14) (Nat.le_trans (ry_22.ld a4) p14) qn4 qm4).mono ?_
    rintro e w23 ⟨rfl, b23⟩
    have h_23 := h_22.below b23
    have rx_23 := rx_22.below b23
    have ry_23 := ry_22.below b23
    have yd_23 := yd_22.below b23
    have bx_23 := bx_22.below b23 bx_22.lt
    have qx_23 := qx_22.below b23 qx_22.lt
    have qy_23 := qy_22.below b23 qy_22.lt
    have bd_23 := bd_22.below b23 bd_22.lt
    have F23 := below_then F22 (Nat.le_refl _) b23
    try dsimp only
    refine hK.out _ _ ?_ (fun hHeld => ?_)
    · (try dsimp only); exact ⟨bx_23.cell0, bx_23.cell1, bx_23.cell2, qx_23.cell0, qx_23.cell1, qx_23.cell2, qy_23.cell0, qy_23.cell1, qy_23.cell2, bd_23.cell0, bd_23.cell1, bd_23.cell2⟩
    clear hK K
    try simp only [Act.put, List.getElem_toArray, List.getElem_cons_succ, List.getElem_cons_zero, List.setIfInBounds_toArray, List.set_cons_zero, List.set_cons_succ]
    refine wpAnyH_take (i := 21) (v := ?_) rfl (by kernel_rfl) (by kernel_rfl) (by kernel_rfl) (fun _ _ _ h => h) (Or.inl ⟨by rfl, ?_⟩) (by assumption) ?_
    rotate_left 1
    · (intro w9 hSw; (try dsimp only at hSw); go_simp; try with_reducible rfl)
    try simp only [Act.put, List.getElem_toArray, List.getElem_cons_succ, List.getElem_cons_zero, List.setIfInBounds_toArray, List.set_cons_zero, List.set_cons_succ]
    refine wpAnyH_take (i := 22) (v := ?_) rfl (by kernel_rfl) (by kernel_rfl) (by kernel_rfl) (fun _ _ _ h => h) (Or.inl ⟨by rfl, ?_⟩) (by assumption) ?_
    rotate_left 1
    · (intro w9 hSw; (try dsimp only at hSw); go_simp; try with_reducible rfl)
    try simp only [Act.put, List.getElem_toArray, List.getElem_cons_succ, List.getElem_cons_zero, List.setIfInBounds_toArray, List.set_cons_zero, List.set_cons_succ]
    refine wpAnyH_take (i := 23) (v := ?_) rfl (by kernel_rfl) (by kernel_rfl) (by kernel_rfl) (fun _ _ _ h => h) (Or.inl ⟨by rfl, ?_⟩) (by assumption) ?_
    rotate_left 1
    · (intro w9 hSw; (try dsimp only at hSw); go_simp; try with_reducible rfl)
    try simp only [Act.put, List.getElem_toArray, List.getElem_cons_succ, List.getElem_cons_zero, List.setIfInBounds_toArray, List.set_cons_zero, List.set_cons_succ]
    refine wpAnyH_done (by kernel_rfl) ?_ _
    go_wp2_with fail
    refine (rsub_q _ _ _ _ _ _ _ _ _ _ _ _ _ _ v u (v - u) _ rfl ry_23.iq rx_23.iq (Nat.le_trans (ry_23.ln a3) p14) (Nat.le_trans (ry_23.ld a4) p14) (Nat.le_trans (rx_23.ln a1) p14) (Nat.le_trans (rx_23.ld a2) p14)).mono ?_
    rintro e w24 ⟨s24, A24, n24, c24, B24, m24, d24, rfl, wd, b24⟩
    have h_24 := h_23.below b24
    have rx_24 := rx_23.below b24
    have ry_24 := ry_23.below b24
    have bx_24 := bx_23.below b24 bx_23.lt
    have qx_24 := qx_23.below b24 qx_23.lt
    have qy_24 := qy_23.below b24 qy_23.lt
    have F24 := below_then F23 (Nat.le_refl _) b24
    have bx_u24 := bx_24.cell0
    have bx_v24 := bx_24.cell1
    have bx_w24 := bx_24.cell2
    have qx_u24 := qx_24.cell0
    have qx_v24 := qx_24.cell1
    have qx_w24 := qx_24.cell2
    have qy_u24 := qy_24.cell0
    have qy_v24 := qy_24.cell1
    have qy_w24 := qy_24.cell2
    have lt_bw_bx := bx_24.lt
    have lt_bw_qx := qx_24.lt
    have lt_bw_qy := qy_24.lt
    have h_25 := h_24.alloc (EQ s24 A24 n24 c24 B24 m24 d24)
    have rx_25 := rx_24.alloc (EQ s24 A24 n24 c24 B24 m24 d24)
    have ry_25 := ry_24.alloc (EQ s24 A24 n24 c24 B24 m24 d24)
    have wd_25 := wd.alloc (EQ s24 A24 n24 c24 B24 m24 d24)
    have bx_25 := bx_24.alloc (EQ s24 A24 n24 c24 B24 m24 d24)
    have qx_25 := qx_24.alloc (EQ s24 A24 n24 c24 B24 m24 d24)
    have qy_25 := qy_24.alloc (EQ s24 A24 n24 c24 B24 m24 d24)
    have bw_25 : Sq ((w24).alloc (EQ s24 A24 n24 c24 B24 m24 d24)) (w24.heap.size) (.bool s24) (.slice A24 n24 c24) (.slice B24 m24 d24) := by have h_ := Sq.new (w24) (.bool s24) (.slice A24 n24 c24) (.slice B24 m24 d24); exact h_
    have F25 := F24.alloc F24.size (EQ s24 A24 n24 c24 B24 m24 d24)
    have bx_u25 := bx_25.cell0
    have bx_v25 := bx_25.cell1
    have bx_w25 := bx_25.cell2
    have qx_u25 := qx_25.cell0
    have qx_v25 := qx_25.cell1
    have qx_w25 := qx_25.cell2
    have qy_u25 := qy_25.cell0
    have qy_v25 := qy_25.cell1
    have qy_w25 := qy_25.cell2
    have bw_u25 := bw_25.cell0
    have bw_v25 := bw_25.cell1
    have bw_w25 := bw_25.cell2
    go_wp2_with fail
    have h_26 := h_25.alloc (.cells #[.int .u32 1] 47)
    have wd_26 := wd_25.alloc (.cells #[.int .u32 1] 47)
    have bx_26 := bx_25.alloc (.cells #[.int .u32 1] 47)
    have bw_26 := bw_25.alloc (.cells #[.int .u32 1] 47)
    have F26 := F25.alloc F25.size (.cells #[.int .u32 1] 47)
    have one := rd_one ((w24).alloc (EQ s24 A24 n24 c24 B24 m24 d24)) 1 (by omega)
    simp only [World.size_alloc] at one
    have bx_u26 := bx_26.cell0
    have bx_v26 := bx_26.cell1
    have bx_w26 := bx_26.cell2
    have bw_u26 := bw_26.cell0
    have bw_v26 := bw_26.cell1
    have bw_w26 := bw_26.cell2
    refine (rShl_L _ _ _ [1] _ J (1 * 2 ^ J) L _ (by first | with_reducible rfl | exact HZJ.out) HX1.out HL.out one (by decide) HJ.out).mono ?_
    rintro e w27 ⟨A27, c27, rfl, pp, b27⟩
    have h_27 := h_26.below b27
    have wd_27 := wd_26.below b27
    have one_27 := one.below b27
    have bx_27 := bx_26.below b27 bx_26.lt
    have bw_27 := bw_26.below b27 bw_26.lt
    have F27 := below_then F26 (Nat.le_refl _) b27
    have bx_u27 := bx_27.cell0
    have bx_v27 := bx_27.cell1
    have bx_w27 := bx_27.cell2
    have bw_u27 := bw_27.cell0
    have bw_v27 := bw_27.cell1
    have bw_w27 := bw_27.cell2
    go_wp2_with fail
    refine (rcanon_q _ _ _ _ _ _ _ (qab q) _ (iq_abs h_27) qn16 qm16).mono ?_
    rintro e w28 ⟨s28, A28, n28, c28, B28, m28, d28, rfl, zc, b28⟩
    have h_28 := h_27.below b28
    have wd_28 := wd_27.below b28
    have pp_28 := pp.below b28
    have bx_28 := bx_27.below b28 bx_27.lt
    have bw_28 := bw_27.below b28 bw_27.lt
    have F28 := below_then F27 (Nat.le_refl _) b28
    have bx_u28 := bx_28.cell0
    have bx_v28 := bx_28.cell1
    have bx_w28 := bx_28.cell2
    have bw_u28 := bw_28.cell0
    have bw_v28 := bw_28.cell1
    have bw_w28 := bw_28.cell2
    have lt_bz_bx := bx_28.lt
    have lt_bz_bw := bw_28.lt
    have h_29 := h_28.alloc (EQ s28 A28 n28 c28 B28 m28 d28)
    have wd_29 := wd_28.alloc (EQ s28 A28 n28 c28 B28 m28 d28)
    have pp_29 := pp_28.alloc (EQ s28 A28 n28 c28 B28 m28 d28)
    have zc_29 := zc.alloc (EQ s28 A28 n28 c28 B28 m28 d28)
    have bx_29 := bx_28.alloc (EQ s28 A28 n28 c28 B28 m28 d28)
    have bw_29 := bw_28.alloc (EQ s28 A28 n28 c28 B28 m28 d28)
    have bz_29 : Sq ((w28).alloc (EQ s28 A28 n28 c28 B28 m28 d28)) (w28.heap.size) (.bool s28) (.slice A28 n28 c28) (.slice B28 m28 d28) := by have h_ := Sq.new (w28) (.bool s28) (.slice A28 n28 c28) (.slice B28 m28 d28); exact h_
    have F29 := F28.alloc F28.size (EQ s28 A28 n28 c28 B28 m28 d28)
    have bx_u29 := bx_29.cell0
    have bx_v29 := bx_29.cell1
    have bx_w29 := bx_29.cell2
    have bw_u29 := bw_29.cell0
    have bw_v29 := bw_29.cell1
    have bw_w29 := bw_29.cell2
    have bz_u29 := bz_29.cell0
    have bz_v29 := bz_29.cell1
    have bz_w29 := bz_29.cell2
    go_wp2_with fail
    have h_30 := h_29.drew
    have wd_30 := wd_29.drew
    have pp_30 := pp_29.drew
    have zc_30 := zc_29.drew
    have bx_30 := bx_29.drew
    have bw_30 := bw_29.drew
    have bz_30 := bz_29.drew
    have F30 := F29.drew
    go_region_held3 (fun w' => w'.cell? ⟨w24.heap.size, 0, none⟩ = some (.bool s24) ∧ w'.cell? ⟨w24.heap.size, 1, none⟩ = some (.slice A24 n24 c24) ∧ w'.cell? ⟨w24.heap.size, 2, none⟩ = some (.slice B24 m24 d24) ∧ w'.cell? ⟨w28.heap.size, 0, none⟩ = some (.bool s28) ∧ w'.cell? ⟨w28.heap.size, 1, none⟩ = some (.slice A28 n28 c28) ∧ w'.cell? ⟨w28.heap.size, 2, none⟩ = some (.slice B28 m28 d28))
      (first
        | with_reducible exact ⟨bw_32.cell0, bw_32.cell1, bw_32.cell2, bz_32.cell0, bz_32.cell1, bz_32.cell2⟩
        | with_reducible exact ⟨bw_31.cell0, bw_31.cell1, bw_31.cell2, bz_31.cell0, bz_31.cell1, bz_31.cell2⟩
        | with_reducible exact ⟨bw_30.cell0, bw_30.cell1, bw_30.cell2, bz_30.cell0, bz_30.cell1, bz_30.cell2⟩
        | fail)
      (first
        | (go_at_call 33; (with_reducible refine (rmul_q _ _ _ _ _ _ _ _ _ _ _ _ _ _ (v - u) ((2 ^ J : Nat) : Rat) _ _ rfl wd_30.iq (iq_pow pp_30) (Nat.le_trans (wd_30.ln a5) p29) (Nat.le_trans (wd_30.ld a6) p29) p4 p0).mono ?_); rintro e w31 ⟨s31, A31, n31, c31, B31, m31, d31, rfl, pr, b31⟩; have h_31 := h_30.below b31; have wd_31 := wd_30.below b31; have pp_31 := pp_30.below b31; have zc_31 := zc_30.below b31; have bx_31 := bx_30.below b31 bx_30.lt; have bw_31 := bw_30.below b31 bw_30.lt; have bz_31 := bz_30.below b31 bz_30.lt; have F31 := below_then F30 (Nat.le_refl _) b31)
        | (go_at_call 30; (with_reducible refine (rcmp_q _ _ _ _ _ _ _ _ _ _ _ _ _ _ _ (qab q) r5 _ H5.out pr.iq zc_31.iq (Nat.le_trans (pr.ln a7) p33) (Nat.le_trans (pr.ld a8) p33) (Nat.le_trans (zc_31.ln a9) p34) (Nat.le_trans (zc_31.ld a10) p34)).mono ?_); rintro e w32 ⟨rfl, b32⟩; have h_32 := h_31.below b32; have wd_32 := wd_31.below b32; have pp_32 := pp_31.below b32; have zc_32 := zc_31.below b32; have pr_32 := pr.below b32; have bx_32 := bx_31.below b32 bx_31.lt; have bw_32 := bw_31.below b32 bw_31.lt; have bz_32 := bz_31.below b32 bz_31.lt; have F32 := below_then F31 (Nat.le_refl _) b32)
        | fail)
    have bx_u32 := bx_32.cell0
    have bx_v32 := bx_32.cell1
    have bx_w32 := bx_32.cell2
    have bw_u32 := bw_32.cell0
    have bw_v32 := bw_32.cell1
    have bw_w32 := bw_32.cell2
    have bz_u32 := bz_32.cell0
    have bz_v32 := bz_32.cell1
    have bz_w32 := bz_32.cell2
    go_wp2
    go_ret
    exact ⟨rfl, F32⟩
theorem law_outward (s : Bool) (A : Option Addr) (n c : Nat) (B : Option Addr) (m d : Nat) (xs ys : List Nat) (o : Int) (w : World) (ho : 0 ≤ o ∧ o < 256) (hx : Rd w A n c xs) (hy : Rd w B m d ys) (T : Tb w) : Calls Tryd.prog 6 #[.agg #[.bool s, .slice A n c, .slice B m d], .int .u8 o] w (fun e w' => e = .returned (.bool true) ∧ Below w.heap.size w w') := by
  have h : Iq w s A n c B m d (rv s xs ys) := ⟨xs, ys, hx, hy, rfl⟩
  by_cases hh : n ≤ 3 ∧ m ≤ 3
  · by_cases hi : Isd (rv s xs ys)
    · exact do_dy s A n c B m d o _ w ho h hh.1 hh.2 hi T
    · exact do_not s A n c B m d o _ w ho h hh.1 hh.2 hi T
  · exact do_no s A n c B m d o _ w ho h hh T
end Go.Proofs.YthiapkalmmgliaaDoor
