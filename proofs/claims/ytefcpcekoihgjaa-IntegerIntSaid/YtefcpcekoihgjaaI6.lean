/-
  Integers: Cmp, Of, Int of both.
-/
import Derived.Test.YtefcpcekoihgjaaI5
namespace Go.Proofs.Ytefcpcekoihgjaa
open Go.RowKit
set_option linter.unusedVariables false
set_option linter.unusedSimpArgs false

theorem compare_sz {z y : Int} (h : sz z ≠ sz y) : Lib.compareInt (sz z) (sz y) = sz (z - y) := by
  unfold Lib.compareInt
  unfold sz at h ⊢
  (repeat' split) <;> (repeat' split at h) <;> omega
theorem sg_sz_neg {z y : Int} (hz : z < 0) (hy : y < 0) : sg y.natAbs z.natAbs = sz (z - y) := by
  unfold sg sz
  (repeat' split) <;> omega
theorem sg_sz_pos {z y : Int} (hz : 0 ≤ z) (hy : 0 ≤ y) : sg z.natAbs y.natAbs = sz (z - y) := by
  unfold sg sz
  (repeat' split) <;> omega
theorem sz_neg {z : Int} : sz z < 0 ↔ z < 0 := by
  unfold sz
  (repeat' split) <;> omega
theorem cmp_at (A B : Option Addr) (n m c d : Nat) (xs ys : List Nat) (w : World) (X Y : Nat) (r : Int) (hx : X = val xs) (hy : Y = val ys) (h : Rd w A n c xs) (h2 : Rd w B m d ys) (hn : n ≤ 1048576) (hm : m ≤ 1048576) (hr : sg X Y = r) :
    Calls Try.prog 47 #[.slice A n c, .slice B m d] w fun e w' => e = .returned (.int .i64 r) ∧ Below w.heap.size w w' := by
  subst hx hy
  exact cmp_b A B n m c d xs ys w r h h2 hn hm hr
theorem cmp_int (s t : Bool) (A B : Option Addr) (n m c d : Nat) (z y r : Int) (w : World) (hr : sz (z - y) = r) (h : Iz w s A n c z) (k : Iz w t B m d y) (hn : n ≤ 1048576) (hm : m ≤ 1048576) :
    Calls Try.prog 30 #[.agg #[.bool s, .slice A n c], .agg #[.bool t, .slice B m d]] w (Asks w (.int .i64 r)) := by
  have h1 := (h.alloc (EI s A n c)).alloc (EI t B m d)
  have k1 := (k.alloc (EI s A n c)).alloc (EI t B m d)
  obtain ⟨p, hp⟩ : ∃ p, sz z = p := ⟨_, rfl⟩
  obtain ⟨q, hq⟩ : ∃ q, sz y = q := ⟨_, rfl⟩
  obtain ⟨xs, hx, ex⟩ := h
  obtain ⟨ys, hy, ey⟩ := k
  have ax : z.natAbs = val xs := by rw [← ex, iv_abs]
  have ay : y.natAbs = val ys := by rw [← ey, iv_abs]
  have HX := hide ax
  have HY := hide ay
  have HR := hide hr
  have HP := hide hp
  have HQ := hide hq
  clear ex ey ax ay hr hp hq
  have h1 := h1.below (Below.refl _ _).drew
  have k1 := k1.below (Below.refl _ _).drew
  obtain ⟨B0, ha, hb⟩ := ent2 (w := w) (a0 := .bool s) (a1 := .slice A n c) (b0 := .bool t) (b1 := .slice B m d) ((Below.refl _ _).drew)
  go_enter Try.func30, Try.ntmps30
  go_wp2_with fail
  go_region_held3 (fun w' => w'.cell? ⟨w.heap.size, 0, none⟩ = some (.bool s) ∧ w'.cell? ⟨w.heap.size, 1, none⟩ = some (.slice A n c) ∧ w'.cell? ⟨w.heap.size + 1, 0, none⟩ = some (.bool t) ∧ w'.cell? ⟨w.heap.size + 1, 1, none⟩ = some (.slice B m d))
    (first
      | exact ⟨ha2.cell0, ha2.cell1, hb2.cell0, hb2.cell1⟩
      | exact ⟨ha1.cell0, ha1.cell1, hb1.cell0, hb1.cell1⟩
      | exact ⟨ha.cell0, ha.cell1, hb.cell0, hb.cell1⟩
      | fail)
    (first
      | (go_at_call 16; (with_reducible refine (sign_int _ _ _ _ _ _ _ HP.out h1 hn).mono ?_); rintro e w1 ⟨rfl, b1⟩; have ha1 := ha.below b1 ha.lt; have hb1 := hb.below b1 hb.lt; have k2 := k1.below b1)
      | (go_at_call 16; (with_reducible refine (sign_int _ _ _ _ _ _ _ HQ.out k2 hm).mono ?_); rintro e w2 ⟨rfl, b2⟩; have ha2 := ha1.below b2 ha1.lt; have hb2 := hb1.below b2 hb1.lt)
      | fail)
  have B2 := below_then (below_then B0 (Nat.le_refl _) b1) (Nat.le_refl _) b2
  have hx2 := hx.below B2
  have hy2 := hy.below B2
  have a0 := ha2.cell0
  have a1 := ha2.cell1
  have c0 := hb2.cell0
  have c1 := hb2.cell1
  by_cases hpq : p = q
  · have e0 : (p != q) = false := by simp [hpq]
    have HPQ := hide hpq
    clear hpq
    by_cases hp0 : p < 0
    · have e1 : decide (p < 0) = true := by simp [hp0]
      have hrr : sg y.natAbs z.natAbs = r := (sg_sz_neg (sz_neg.1 (by rw [HP.out]; exact hp0)) (sz_neg.1 (by rw [HQ.out, ← HPQ.out]; exact hp0))).trans HR.out
      have HRR := hide hrr
      clear hrr hp0
      go_wp2_with fail
      refine (cmp_at _ _ _ _ _ _ _ _ _ _ _ r HY.out HX.out hy2 hx2 hm hn HRR.out).mono ?_
      rintro e w3 ⟨rfl, b3⟩
      go_wp2
      go_ret
      exact ⟨rfl, below_then B2 (Nat.le_refl _) b3⟩
    · have e1 : decide (p < 0) = false := by simp; omega
      have hz0 : ¬ z < 0 := fun h => hp0 (by rw [← HP.out]; exact sz_neg.2 h)
      have hy0 : ¬ y < 0 := fun h => hp0 (by rw [HPQ.out, ← HQ.out]; exact sz_neg.2 h)
      have hrr : sg z.natAbs y.natAbs = r := (sg_sz_pos (by omega) (by omega)).trans HR.out
      have HRR := hide hrr
      clear hrr hp0 hz0 hy0
      go_wp2_with fail
      refine (cmp_at _ _ _ _ _ _ _ _ _ _ _ r HX.out HY.out hx2 hy2 hn hm HRR.out).mono ?_
      rintro e w3 ⟨rfl, b3⟩
      go_wp2
      go_ret
      exact ⟨rfl, below_then B2 (Nat.le_refl _) b3⟩
  · have e0 : (p != q) = true := by simp [hpq]
    have hrr : Lib.compareInt p q = r := by rw [← HP.out, ← HQ.out, compare_sz (by rw [HP.out, HQ.out]; exact hpq), HR.out]
    have HRR := hide hrr
    clear hrr hpq
    go_wp2_with fail
    refine (Try.cmp_Compare_int p q _).mono ?_
    rintro e w3 ⟨rfl, rfl⟩
    rw [HRR.out]
    go_wp2
    go_ret
    exact ⟨rfl, B2⟩
theorem rcmp_int (s t : Bool) (A B : Option Addr) (n m c d : Nat) (z y r : Int) (w : World) (hr : sz (z - y) = r) (h : Iz w s A n c z) (k : Iz w t B m d y) (hn : n ≤ 65535) (hm : m ≤ 65535) :
    Calls Try.prog 31 #[.agg #[.bool s, .slice A n c], .agg #[.bool t, .slice B m d]] w (Asks w (.int .i64 r)) := by
  have h1 := (h.alloc (EI s A n c)).alloc (EI t B m d)
  have k1 := (k.alloc (EI s A n c)).alloc (EI t B m d)
  have lz := h.abs hn
  have ly := k.abs hm
  have lzy : (z - y).natAbs < pw (65535 + 1) := by have := add_pw lz ly; omega
  have HR := hide hr
  clear hr
  go_enter Try.func31, Try.ntmps31
  go_wp2_with fail
  refine (rsub_int _ _ _ _ _ _ _ _ _ _ _ _ rfl h1 k1 (by omega) (by omega)).mono ?_
  rintro e w1 ⟨s1, A1, n1, c1, rfl, hc, b1⟩
  obtain ⟨B1, ha, hb⟩ := ent2 b1
  have hl := hc.len lzy
  clear lzy lz ly
  go_wp2_with fail
  refine (rsign_int _ _ _ _ _ _ _ HR.out hc.iz (by omega)).mono ?_
  rintro e w2 ⟨rfl, b2⟩
  go_wp2
  go_ret
  exact ⟨rfl, below_then B1 (Nat.le_refl _) b2⟩
theorem rof_at (i : Int) (k : Nat) (w : World) (hi : i = (k : Int)) (hk : k ≤ 18446744073709551615) : Calls Try.prog 45 #[.int .u64 i] w (Gives w (dg k)) := by
  subst hi
  exact rof_calls k w hk
theorem ofint_int (x : Int) (w : World) (h1 : -9223372036854775808 ≤ x) (h2 : x ≤ 9223372036854775807) : Calls Try.prog 19 #[.int .i64 x] w (GI w x) := by
  have hl : (dg x.natAbs).length ≤ 1048576 := Nat.le_trans (dg_le (k := 2) (by show x.natAbs < 4294967296 * (4294967296 * 1); omega)) (by omega)
  by_cases h0 : x < 0
  · have e0 : decide (x < 0) = true := by simp [h0]
    have e1 : IntKind.u64.wrap (-IntKind.u64.wrap x) = ((x.natAbs : Nat) : Int) := by rw [IntKind.wrap_u64, IntKind.wrap_u64]; omega
    have e2 : (if true = true then -((x.natAbs : Nat) : Int) else ((x.natAbs : Nat) : Int)) = x := by simp; omega
    have e3 : x.natAbs ≤ 18446744073709551615 := by omega
    have H1 := hide e1
    have H2 := hide e2
    clear h0 e1 e2
    go_enter Try.func19, Try.ntmps19
    go_wp2_with fail
    with_reducible refine (of_int _ _ _ H1.out e3).mono ?_
    rintro e w1 ⟨A1, c1, rfl, hr1, b1⟩
    go_wp2_with fail
    refine (signed_calls true _ _ _ _ x _ hr1 H2.out).mono ?_
    rintro e w2 ⟨s2, A2, n2, c2, rfl, hc, b2⟩
    obtain ⟨hB, hs⟩ := ent1 (below_then b1 (Nat.le_refl _) b2)
    have k0_ := hs.cell0
    have k1_ := hs.cell1
    have k2_ := hs.frozen 0
    have k3_ := hs.frozen 1
    go_wp2_with fail
    refine bodyPost_ret (v := .agg #[.bool s2, .slice A2 n2 c2]) (by simp [results, Try.results19, go_sem, (hs.set0 (.bool s2)).cell0, ((hs.set0 (.bool s2)).set1 (.slice A2 n2 c2)).cell1]) rfl (gi_end hB (Nat.le_refl _) hs hc)
  · have e0 : decide (x < 0) = false := by simp; omega
    have e1 : IntKind.u64.wrap x = ((x.natAbs : Nat) : Int) := by rw [IntKind.wrap_u64]; omega
    have e2 : (if false = true then -((x.natAbs : Nat) : Int) else ((x.natAbs : Nat) : Int)) = x := by simp; omega
    have e3 : x.natAbs ≤ 18446744073709551615 := by omega
    have H1 := hide e1
    have H2 := hide e2
    clear h0 e1 e2
    go_enter Try.func19, Try.ntmps19
    go_wp2_with fail
    with_reducible refine (of_int _ _ _ H1.out e3).mono ?_
    rintro e w1 ⟨A1, c1, rfl, hr1, b1⟩
    go_wp2_with fail
    refine (signed_calls false _ _ _ _ x _ hr1 H2.out).mono ?_
    rintro e w2 ⟨s2, A2, n2, c2, rfl, hc, b2⟩
    obtain ⟨hB, hs⟩ := ent1 (below_then b1 (Nat.le_refl _) b2)
    have k0_ := hs.cell0
    have k1_ := hs.cell1
    have k2_ := hs.frozen 0
    have k3_ := hs.frozen 1
    go_wp2_with fail
    refine bodyPost_ret (v := .agg #[.bool s2, .slice A2 n2 c2]) (by simp [results, Try.results19, go_sem, (hs.set0 (.bool s2)).cell0, ((hs.set0 (.bool s2)).set1 (.slice A2 n2 c2)).cell1]) rfl (gi_end hB (Nat.le_refl _) hs hc)
theorem rofint_int (x : Int) (w : World) (h1 : -9223372036854775808 ≤ x) (h2 : x ≤ 9223372036854775807) : Calls Try.prog 21 #[.int .i64 x] w (GI w x) := by
  have hl : (dg x.natAbs).length ≤ 1048576 := Nat.le_trans (dg_le (k := 2) (by show x.natAbs < 4294967296 * (4294967296 * 1); omega)) (by omega)
  by_cases h0 : x < 0
  · have e0 : decide (x < 0) = true := by simp [h0]
    have e1 : IntKind.u64.wrap (-IntKind.u64.wrap x) = ((x.natAbs : Nat) : Int) := by rw [IntKind.wrap_u64, IntKind.wrap_u64]; omega
    have e2 : (if true = true then -((x.natAbs : Nat) : Int) else ((x.natAbs : Nat) : Int)) = x := by simp; omega
    have e3 : x.natAbs ≤ 18446744073709551615 := by omega
    have H1 := hide e1
    have H2 := hide e2
    clear h0 e1 e2
    go_enter Try.func21, Try.ntmps21
    go_wp2_with fail
    with_reducible refine (rof_at _ _ _ H1.out e3).mono ?_
    rintro e w1 ⟨A1, c1, rfl, hr1, b1⟩
    go_wp2_with fail
    refine (rmake_int true _ _ _ x _ (iz_of true hr1 H2.out) hl).mono ?_
    rintro e w2 ⟨s2, A2, n2, c2, rfl, hc, b2⟩
    obtain ⟨hB, hs⟩ := ent1 (below_then b1 (Nat.le_refl _) b2)
    have k0_ := hs.cell0
    have k1_ := hs.cell1
    have k2_ := hs.frozen 0
    have k3_ := hs.frozen 1
    go_wp2_with fail
    refine bodyPost_ret (v := .agg #[.bool s2, .slice A2 n2 c2]) (by simp [results, Try.results21, go_sem, (hs.set0 (.bool s2)).cell0, ((hs.set0 (.bool s2)).set1 (.slice A2 n2 c2)).cell1]) rfl (gi_end hB (Nat.le_refl _) hs hc)
  · have e0 : decide (x < 0) = false := by simp; omega
    have e1 : IntKind.u64.wrap x = ((x.natAbs : Nat) : Int) := by rw [IntKind.wrap_u64]; omega
    have e2 : (if false = true then -((x.natAbs : Nat) : Int) else ((x.natAbs : Nat) : Int)) = x := by simp; omega
    have e3 : x.natAbs ≤ 18446744073709551615 := by omega
    have H1 := hide e1
    have H2 := hide e2
    clear h0 e1 e2
    go_enter Try.func21, Try.ntmps21
    go_wp2_with fail
    with_reducible refine (rof_at _ _ _ H1.out e3).mono ?_
    rintro e w1 ⟨A1, c1, rfl, hr1, b1⟩
    go_wp2_with fail
    refine (rmake_int false _ _ _ x _ (iz_of false hr1 H2.out) hl).mono ?_
    rintro e w2 ⟨s2, A2, n2, c2, rfl, hc, b2⟩
    obtain ⟨hB, hs⟩ := ent1 (below_then b1 (Nat.le_refl _) b2)
    have k0_ := hs.cell0
    have k1_ := hs.cell1
    have k2_ := hs.frozen 0
    have k3_ := hs.frozen 1
    go_wp2_with fail
    refine bodyPost_ret (v := .agg #[.bool s2, .slice A2 n2 c2]) (by simp [results, Try.results21, go_sem, (hs.set0 (.bool s2)).cell0, ((hs.set0 (.bool s2)).set1 (.slice A2 n2 c2)).cell1]) rfl (gi_end hB (Nat.le_refl _) hs hc)
/-- The number as an int. -/
def i64Of (z : Int) : Int × Bool := if -9223372036854775808 ≤ z ∧ z ≤ 9223372036854775807 then (z, true) else (0, false)
theorem u64_iff {xs : List Nat} (hs : Sm xs) : tlen xs ≤ 2 ↔ val xs ≤ 18446744073709551615 := by
  constructor
  · intro h
    have h1 := lt_of_len (n := val xs) (k := 2) (by rw [len_dg_val hs]; exact h)
    have h2 : pw 2 = 18446744073709551616 := by decide
    omega
  · intro h
    have h2 : pw 2 = 18446744073709551616 := by decide
    have h1 := len_dg_le (n := val xs) (k := 2) (by omega)
    rwa [len_dg_val hs] at h1
theorem int_int (s : Bool) (A : Option Addr) (n c : Nat) (z v : Int) (b : Bool) (w : World) (hv : i64Of z = (v, b)) (h : Iz w s A n c z) (hn : n ≤ 1048576) :
    Calls Try.prog 18 #[.agg #[.bool s, .slice A n c]] w (Asks w (.tuple #[.int .i64 v, .bool b])) := by
  have hB : Below w.heap.size w (w.alloc (EI s A n c)) := (Below.refl _ _).alloc (Nat.le_refl _) _
  obtain ⟨xs, h, hz⟩ := h
  have h1 := rd_alloc h (EI s A n c)
  have hu := u64_iff h.sm
  by_cases ht : tlen xs ≤ 2
  · have hu2 := hu.1 ht
    have hvb : u64Of xs = (val xs, true) := if_pos ht
    obtain ⟨x, hx⟩ : ∃ x, val xs = x := ⟨_, rfl⟩
    rw [hx] at hvb hu2
    cases s
    · have hz2 : z = x := by rw [← hz, ← hx]; rfl
      by_cases h63 : x < 9223372036854775808
      · have d1 : decide ((x : Int) < 9223372036854775808) = true := by simp; omega
        obtain ⟨rfl, rfl⟩ := Prod.mk.inj ((if_pos (by omega)).symm.trans hv)
        subst hz2
        have E4 : wrap64 (x : Int) = x := by unfold wrap64; omega
        clear hu hu2 ht hx hz hv h63
        go_enter Try.func18, Try.ntmps18
        go_wp2_with fail
        refine (uint_calls _ _ _ _ _ _ _ hvb h1 hn).mono ?_
        rintro e w1 ⟨rfl, rfl⟩
        go_wp2
        go_ret2
        exact ⟨congrArg (fun v => Ending.returned (.tuple #[.int .i64 v, .bool true])) E4, hB⟩
      · have d1 : decide ((x : Int) < 9223372036854775808) = false := by simp; omega
        obtain ⟨rfl, rfl⟩ := Prod.mk.inj ((if_neg (by omega)).symm.trans hv)
        clear hu hu2 ht hx hz hv h63
        go_enter Try.func18, Try.ntmps18
        go_wp2_with fail
        refine (uint_calls _ _ _ _ _ _ _ hvb h1 hn).mono ?_
        rintro e w1 ⟨rfl, rfl⟩
        go_wp2
        go_ret2
        exact ⟨rfl, hB⟩
    · have hz2 : z = -(x : Int) := by rw [← hz, ← hx]; rfl
      by_cases h63 : x ≤ 9223372036854775808
      · have d1 : decide ((x : Int) ≤ 9223372036854775808) = true := by simp; omega
        obtain ⟨rfl, rfl⟩ := Prod.mk.inj ((if_pos (by omega)).symm.trans hv)
        subst hz2
        have E4 : wrap64 (IntKind.u64.wrap (-(x : Int))) = -(x : Int) := by rw [IntKind.wrap_u64]; unfold wrap64; omega
        clear hu hu2 ht hx hz hv h63
        go_enter Try.func18, Try.ntmps18
        go_wp2_with fail
        refine (uint_calls _ _ _ _ _ _ _ hvb h1 hn).mono ?_
        rintro e w1 ⟨rfl, rfl⟩
        go_wp2
        go_ret2
        exact ⟨congrArg (fun v => Ending.returned (.tuple #[.int .i64 v, .bool true])) E4, hB⟩
      · have d1 : decide ((x : Int) ≤ 9223372036854775808) = false := by simp; omega
        obtain ⟨rfl, rfl⟩ := Prod.mk.inj ((if_neg (by omega)).symm.trans hv)
        clear hu hu2 ht hx hz hv h63
        go_enter Try.func18, Try.ntmps18
        go_wp2_with fail
        refine (uint_calls _ _ _ _ _ _ _ hvb h1 hn).mono ?_
        rintro e w1 ⟨rfl, rfl⟩
        go_wp2
        go_ret2
        exact ⟨rfl, hB⟩
  · have hvb : u64Of xs = (0, false) := if_neg ht
    have hu2 : ¬ val xs ≤ 18446744073709551615 := fun e => ht (hu.2 e)
    have ha := iv_abs s xs
    obtain ⟨rfl, rfl⟩ := Prod.mk.inj ((if_neg (by omega)).symm.trans hv)
    clear hu hu2 ht hz hv ha
    go_enter Try.func18, Try.ntmps18
    go_wp2_with fail
    refine (uint_calls _ _ _ _ _ _ _ hvb h1 hn).mono ?_
    rintro e w1 ⟨rfl, rfl⟩
    go_wp2
    go_ret2
    exact ⟨rfl, hB⟩
end Go.Proofs.Ytefcpcekoihgjaa
