/-
  Several texts in one, in build order: K4 K5 K6 K7 K8 K9 K10 K11.
-/
import Derived.Test.YtnddhohjfjlaiaaGreatDoorK3

/-
  The canonical form.
-/
namespace Go.Proofs.YtnddhohjfjlaiaaGreatDoor
open Go.RowKit
set_option linter.unusedVariables false
set_option linter.unusedSimpArgs false

theorem lim_mod2 (xs : List Nat) : lim xs 0 % 2 = val xs % 2 := by
  cases xs with
  | nil => rfl
  | cons x l =>
    show (x : Nat) % 2 = (x + 4294967296 * val l) % 2
    omega
theorem and_one (a : Nat) (ha : a < 4294967296) : bits .and .u32 (a : Int) 1 = ((a % 2 : Nat) : Int) := by
  have := u32_and_nat a 1 ha (by omega)
  rw [Nat.and_one_is_mod] at this
  exact this
def CanRel (q : Rat) (T e0 : Int) (g : Nat) (w : World) (mv ev : Value) (wr : World) : Prop :=
  ∃ (m : Nat) (A : Option Addr) (L c : Nat) (x : Int), mv = .slice A L c ∧ ev = .int .i64 x ∧ Rd wr A L c (dg m) ∧ Sy wr g (.bool false) (.slice none 0 0) (.int .i64 0) ∧ Below w.heap.size w wr ∧ L ≤ 1000000 ∧ Hid (m ≠ 0 ∧ odp m = dm q ∧ x + tw m = T ∧ e0 ≤ x ∧ x ≤ T)
theorem tw_lt {n k : Nat} (h : n < 2 ^ k) (h0 : n ≠ 0) : tw n < k := by
  have h1 := (odp_tw h0).2
  have h2 := (odp_tw h0).1
  have h3 : 2 ^ tw n ≤ n := by
    have : 1 * 2 ^ tw n ≤ odp n * 2 ^ tw n := Nat.mul_le_mul_right _ (by omega)
    omega
  exact (Nat.pow_lt_pow_iff_right (by decide : 1 < 2)).1 (Nat.lt_of_le_of_lt h3 h)
theorem rcan_zero (s : Bool) (A : Option Addr) (n c : Nat) (xs : List Nat) (e : Int) (w : World) (h : Rd w A n c xs) (hn : n ≤ 1000000) (h0 : val xs = 0) :
    Calls Tryz.prog 59 #[.bool s, .slice A n c, .int .i64 e] w (GDB w 0 true) := by
  have h1 := h.alloc EY0
  have F1 := (Below.refl w.heap.size w).alloc (Nat.le_refl _) EY0
  have S1 : Sy (w.alloc EY0) w.heap.size (.bool false) (.slice none 0 0) (.int .i64 0) := Sy.new w _ _ _
  have HL := hide (show (dg 0).length = 0 by rfl)
  go_enter Tryz.func59, Tryz.ntmps59
  go_wp2_with fail
  refine (rmake_L _ _ _ _ _ 0 0 h0 HL.out h1 (by omega)).mono ?_
  rintro e w2 ⟨A1, c1, rfl, hr, b2⟩
  have S2 := S1.below b2 S1.lt
  have F2 := below_then F1 (Nat.le_refl _) b2
  have c0_ := S2.cell0
  have c1_ := S2.cell1
  have c2_ := S2.cell2
  have f0 := S2.frozen 0
  have f1 := S2.frozen 1
  have f2 := S2.frozen 2
  go_wp2_with fail
  have a0 := S2.set0 (.bool false)
  have a1 := a0.set1 (.slice none 0 0)
  have a2 := a1.set2 (.int .i64 0)
  refine bodyPost_ret (v := .tuple #[.agg #[.bool false, .slice none 0 0, .int .i64 0], .bool true]) (by simp [results, Tryz.results59, go_sem, a2.cell0, a2.cell1, a2.cell2]) rfl (gdb_end true F2 (Nat.le_refl _) S2 (cy_zero _))
theorem rcan_q (s : Bool) (A : Option Addr) (n c : Nat) (xs : List Nat) (e : Int) (q : Rat) (w : World) (h : Rd w A n c xs) (hn : n ≤ 1000000) (hq : dvl s (val xs) e = q) (he : -1000000000 ≤ e ∧ e ≤ 1000000000) (hr : -1048576 ≤ de q ∧ de q ≤ 1048576) :
    Calls Tryz.prog 59 #[.bool s, .slice A n c, .int .i64 e] w (GDB w q true) := by
  by_cases h0 : val xs = 0
  · rw [h0, dvl_zero] at hq
    subst hq
    exact rcan_zero s A n c xs e w h hn h0
  obtain ⟨p1, p2, p3, p4⟩ := dvl_parts s (val xs) e h0
  rw [hq] at p1 p2 p3 p4
  obtain ⟨L, hL⟩ : ∃ L, (dg (val xs)).length = L := ⟨_, rfl⟩
  have hL0 : L ≠ 0 := by rw [← hL]; intro hh; exact h0 (dg_nil_iff.1 (List.eq_nil_of_length_eq_zero hh))
  have hLn : L ≤ 1000000 := by rw [← hL, len_dg_val h.sm]; have := tlen_le xs; have := h.len; omega
  have e0 : (((L : Nat) : Int) == 0) = false := by simp [hL0]
  have HL := hide hL
  have HT := hide (show val xs ≠ 0 ∧ odp (val xs) = dm q ∧ e + tw (val xs) = de q ∧ e ≤ e ∧ e ≤ de q by refine ⟨h0, p2.symm, p3.symm, Int.le_refl _, by omega⟩)
  have HP := hide (And.intro p1 p4)
  have HR := hide hr
  have HE := hide he
  clear hL hL0 p1 p2 p3 p4 hq he h0 hr
  have h1 := h.alloc EY0
  have F1 := (Below.refl w.heap.size w).alloc (Nat.le_refl _) EY0
  have S1 : Sy (w.alloc EY0) w.heap.size (.bool false) (.slice none 0 0) (.int .i64 0) := Sy.new w _ _ _
  go_enter Tryz.func59, Tryz.ntmps59
  go_wp2_with fail
  refine (rmake_L _ _ _ _ _ (val xs) L rfl HL.out h1 (by omega)).mono ?_
  rintro e_ w2 ⟨A1, c1, rfl, hr, b2⟩
  have S2 := S1.below b2 S1.lt
  have F2 := below_then F1 (Nat.le_refl _) b2
  go_wp2_with fail
  go_loopw [1, 2] (fun mv ev wr => CanRel q (de q) e w.heap.size w mv ev wr) (fun mv _ wr => vOf wr mv)
  case atStart => exact ⟨_, _, _, _, _, rfl, rfl, hr, S2, F2, hLn, HT⟩
  case round =>
    obtain ⟨m, B, K, d, x, rfl, rfl, k1, k2, k3, k4, HM⟩ := hrel
    have hl := k1.len
    have hK : 0 < K := by
      rcases Nat.eq_zero_or_pos K with hh | hh
      · exact absurd (dg_nil_iff.1 (List.eq_nil_of_length_eq_zero (hl.trans hh))) HM.out.1
      · exact hh
    obtain ⟨bb, off, rfl, hlt, hc0⟩ := k1.get0 hK
    have hlim : lim (dg m) 0 % 2 = m % 2 := by rw [lim_mod2, val_dg]
    have hsm : lim (dg m) 0 < 4294967296 := k1.sm.lim 0
    have hand := and_one (lim (dg m) 0) hsm
    have hk0 : decide ((K : Int) ≤ 0) = false := by simp; omega
    rcases Nat.mod_two_eq_zero_or_one m with hm | hm
    · rw [hlim, hm] at hand
      have HS := hide (by
        have := rShr_ok (some ⟨bb, off, none⟩) K d _ wr 1 k1 (by omega) (by omega)
        rwa [val_dg, Nat.pow_one] at this : Calls Tryz.prog 86 #[.slice (some ⟨bb, off, none⟩) K d, .int .i64 1] wr (GivesE wr (dg (m / 2)) 0))
      have HB := hide (show -1000000001 ≤ x ∧ x ≤ 1048577 by have := HM.out.2.2.2; have := HE.out; have := HR.out; omega)
      have hx1 := HB.out.1
      have hx2 := HB.out.2
      have HK2 := hide (And.intro hl hm)
      clear hl hm hlim hsm
      go_wp2_with fail
      refine (unhide HS).mono ?_
      rintro e_ w4 ⟨A4, c4, rfl, hr4, b4⟩
      have k2' := k2.below b4 k2.lt
      have k3' := below_then k3 (Nat.le_refl _) b4
      go_wp2
      go_roundw
      case rel =>
        refine ⟨m / 2, A4, _, c4, x + 1, rfl, rfl, hr4, k2', k3', ?_, ?_⟩
        · have : (dg (m / 2)).length ≤ K := len_dg_le (Nat.lt_of_le_of_lt (Nat.div_le_self _ _) (lt_of_len (Nat.le_of_eq HK2.out.1)))
          omega
        · have hm := HK2.out.2
          obtain ⟨q1, q2, q3, q4, q5⟩ := HM.out
          have q6 := tw_even hm q1
          exact hide ⟨by omega, by rw [← odp_even hm q1]; exact q2, by omega, by omega, by omega⟩
      case measure =>
        show vOf _ (.slice A4 _ c4) < vOf _ (.slice (some ⟨bb, off, none⟩) K d)
        rw [vOf_eq hr4, vOf_eq k1, val_dg, val_dg]
        have := HM.out.1
        omega
    · rw [hlim, hm] at hand
      have hx : x = de q := by
        have := HM.out.2.2.1
        rw [tw_odd hm] at this
        omega
      have hmq : m = dm q := by rw [← HM.out.2.1, odp_odd hm]
      subst hx hmq
      have hr1 := HR.out.1
      have hr2 := HR.out.2
      have d1 : decide (de q < -1048576) = false := by simp; omega
      have d2 : decide (1048576 < de q) = false := by simp; omega
      have c0_ := k2.cell0
      have c1_ := k2.cell1
      have c2_ := k2.cell2
      have f0 := k2.frozen 0
      have f1 := k2.frozen 1
      have f2 := k2.frozen 2
      clear hl hlim hsm
      go_wp2_with fail
      have a0 := k2.set0 (.bool s)
      have a1 := a0.set1 (.slice (some ⟨bb, off, none⟩) K d)
      have a2 := a1.set2 (.int .i64 (de q))
      refine bodyPost_ret (v := .tuple #[.agg #[.bool s, .slice (some ⟨bb, off, none⟩) K d, .int .i64 (de q)], .bool true]) (by simp [results, Tryz.results59, go_sem, a2.cell0, a2.cell1, a2.cell2]) rfl (gdb_end true k3 (Nat.le_refl _) k2 ⟨k1, HP.out.2.symm, rfl, HP.out.1⟩)
end Go.Proofs.YtnddhohjfjlaiaaGreatDoor

/-
  Out of range; canonical or not.
-/
namespace Go.Proofs.YtnddhohjfjlaiaaGreatDoor
open Go.RowKit
set_option linter.unusedVariables false
set_option linter.unusedSimpArgs false

theorem rcan_bad (s : Bool) (A : Option Addr) (n c : Nat) (xs : List Nat) (e : Int) (q : Rat) (w : World) (h : Rd w A n c xs) (hn : n ≤ 1000000) (hq : dvl s (val xs) e = q) (he : -1000000000 ≤ e ∧ e ≤ 1000000000) (h00 : q ≠ 0) (hr : de q < -1048576 ∨ 1048576 < de q) (hr9 : de q ≤ 1000000000) :
    Calls Tryz.prog 59 #[.bool s, .slice A n c, .int .i64 e] w (GDB w 0 false) := by
  by_cases h0 : val xs = 0
  · rw [h0, dvl_zero] at hq
    exact absurd hq.symm h00
  obtain ⟨p1, p2, p3, p4⟩ := dvl_parts s (val xs) e h0
  rw [hq] at p1 p2 p3 p4
  obtain ⟨L, hL⟩ : ∃ L, (dg (val xs)).length = L := ⟨_, rfl⟩
  have hL0 : L ≠ 0 := by rw [← hL]; intro hh; exact h0 (dg_nil_iff.1 (List.eq_nil_of_length_eq_zero hh))
  have hLn : L ≤ 1000000 := by rw [← hL, len_dg_val h.sm]; have := tlen_le xs; have := h.len; omega
  have e0 : (((L : Nat) : Int) == 0) = false := by simp [hL0]
  have HL := hide hL
  have HT := hide (show val xs ≠ 0 ∧ odp (val xs) = dm q ∧ e + tw (val xs) = de q ∧ e ≤ e ∧ e ≤ de q by refine ⟨h0, p2.symm, p3.symm, Int.le_refl _, by omega⟩)
  have HP := hide (And.intro p1 p4)
  have HR := hide (And.intro hr hr9)
  have HE := hide he
  clear hL hL0 p1 p2 p3 p4 hq he h0 h00 hr hr9
  have h1 := h.alloc EY0
  have F1 := (Below.refl w.heap.size w).alloc (Nat.le_refl _) EY0
  have S1 : Sy (w.alloc EY0) w.heap.size (.bool false) (.slice none 0 0) (.int .i64 0) := Sy.new w _ _ _
  go_enter Tryz.func59, Tryz.ntmps59
  go_wp2_with fail
  refine (rmake_L _ _ _ _ _ (val xs) L rfl HL.out h1 (by omega)).mono ?_
  rintro e_ w2 ⟨A1, c1, rfl, hr, b2⟩
  have S2 := S1.below b2 S1.lt
  have F2 := below_then F1 (Nat.le_refl _) b2
  go_wp2_with fail
  go_loopw [1, 2] (fun mv ev wr => CanRel q (de q) e w.heap.size w mv ev wr) (fun mv _ wr => vOf wr mv)
  case atStart => exact ⟨_, _, _, _, _, rfl, rfl, hr, S2, F2, hLn, HT⟩
  case round =>
    obtain ⟨m, B, K, d, x, rfl, rfl, k1, k2, k3, k4, HM⟩ := hrel
    have hl := k1.len
    have hK : 0 < K := by
      rcases Nat.eq_zero_or_pos K with hh | hh
      · exact absurd (dg_nil_iff.1 (List.eq_nil_of_length_eq_zero (hl.trans hh))) HM.out.1
      · exact hh
    obtain ⟨bb, off, rfl, hlt, hc0⟩ := k1.get0 hK
    have hlim : lim (dg m) 0 % 2 = m % 2 := by rw [lim_mod2, val_dg]
    have hsm : lim (dg m) 0 < 4294967296 := k1.sm.lim 0
    have hand := and_one (lim (dg m) 0) hsm
    have hk0 : decide ((K : Int) ≤ 0) = false := by simp; omega
    rcases Nat.mod_two_eq_zero_or_one m with hm | hm
    · rw [hlim, hm] at hand
      have HS := hide (by
        have := rShr_ok (some ⟨bb, off, none⟩) K d _ wr 1 k1 (by omega) (by omega)
        rwa [val_dg, Nat.pow_one] at this : Calls Tryz.prog 86 #[.slice (some ⟨bb, off, none⟩) K d, .int .i64 1] wr (GivesE wr (dg (m / 2)) 0))
      have HB := hide (show -1000000001 ≤ x ∧ x ≤ 1000000001 by have := HM.out.2.2.2; have := HE.out; have := HR.out; omega)
      have hx1 := HB.out.1
      have hx2 := HB.out.2
      have HK2 := hide (And.intro hl hm)
      clear hl hm hlim hsm
      go_wp2_with fail
      refine (unhide HS).mono ?_
      rintro e_ w4 ⟨A4, c4, rfl, hr4, b4⟩
      have k2' := k2.below b4 k2.lt
      have k3' := below_then k3 (Nat.le_refl _) b4
      go_wp2
      go_roundw
      case rel =>
        refine ⟨m / 2, A4, _, c4, x + 1, rfl, rfl, hr4, k2', k3', ?_, ?_⟩
        · have : (dg (m / 2)).length ≤ K := len_dg_le (Nat.lt_of_le_of_lt (Nat.div_le_self _ _) (lt_of_len (Nat.le_of_eq HK2.out.1)))
          omega
        · have hm := HK2.out.2
          obtain ⟨q1, q2, q3, q4, q5⟩ := HM.out
          have q6 := tw_even hm q1
          exact hide ⟨by omega, by rw [← odp_even hm q1]; exact q2, by omega, by omega, by omega⟩
      case measure =>
        show vOf _ (.slice A4 _ c4) < vOf _ (.slice (some ⟨bb, off, none⟩) K d)
        rw [vOf_eq hr4, vOf_eq k1, val_dg, val_dg]
        have := HM.out.1
        omega
    · rw [hlim, hm] at hand
      have hx : x = de q := by
        have := HM.out.2.2.1
        rw [tw_odd hm] at this
        omega
      have hmq : m = dm q := by rw [← HM.out.2.1, odp_odd hm]
      subst hx hmq
      have c0_ := k2.cell0
      have c1_ := k2.cell1
      have c2_ := k2.cell2
      have f0 := k2.frozen 0
      have f1 := k2.frozen 1
      have f2 := k2.frozen 2
      have a0 := k2.set0 (.bool false)
      have a1 := a0.set1 (.slice none 0 0)
      have a2 := a1.set2 (.int .i64 0)
      clear hl hlim hsm
      by_cases hlo : de q < -1048576
      · have d1 : decide (de q < -1048576) = true := by simp; omega
        go_wp2_with fail
        refine bodyPost_ret (v := .tuple #[.agg #[.bool false, .slice none 0 0, .int .i64 0], .bool false]) (by simp [results, Tryz.results59, go_sem, a2.cell0, a2.cell1, a2.cell2]) rfl (gdb_end false k3 (Nat.le_refl _) k2 (cy_zero _))
      · have d1 : decide (de q < -1048576) = false := by simp; omega
        have d2 : decide (1048576 < de q) = true := by have := HR.out.1; simp; omega
        go_wp2_with fail
        refine bodyPost_ret (v := .tuple #[.agg #[.bool false, .slice none 0 0, .int .i64 0], .bool false]) (by simp [results, Tryz.results59, go_sem, a2.cell0, a2.cell1, a2.cell2]) rfl (gdb_end false k3 (Nat.le_refl _) k2 (cy_zero _))
/-- The form is canonical. -/
def vb (s : Bool) (xs : List Nat) (e : Int) : Bool := if xs.length = 0 then !s && decide (e = 0) else decide (tlen xs = xs.length) && decide (lim xs 0 % 2 = 1) && decide (-1048576 ≤ e) && decide (e ≤ 1048576)
end Go.Proofs.YtnddhohjfjlaiaaGreatDoor

/-
  The negated number.
-/
namespace Go.Proofs.YtnddhohjfjlaiaaGreatDoor
open Go.RowKit
set_option linter.unusedVariables false
set_option linter.unusedSimpArgs false

theorem isd_neg {q : Rat} (h : Isd q) : Isd (-q) := by
  unfold Isd
  exact h
theorem dm_neg (q : Rat) : dm (-q) = dm q := by
  unfold dm
  rw [show (-q).num = -q.num from rfl, Int.natAbs_neg]
theorem de_neg (q : Rat) : de (-q) = de q := by
  unfold de
  rw [show (-q).num = -q.num from rfl, Int.natAbs_neg, show (-q).den = q.den from rfl]
theorem Cy.pos_iff {w : World} {s : Bool} {A : Option Addr} {n c : Nat} {e : Int} {q : Rat} (h : Cy w s A n c e q) : 0 < n ↔ q ≠ 0 := by
  have hl := h.1.len
  constructor
  · rintro h0 rfl
    rw [dmq_zero] at hl
    simp [dg_zero] at hl
    omega
  · intro h0
    rcases Nat.eq_zero_or_pos n with hn | hn
    · exact absurd (dm_eq_zero.1 (dg_nil_iff.1 (List.eq_nil_of_length_eq_zero (hl.trans hn)))) h0
    · exact hn
theorem neg_lt (q : Rat) : decide (-q < 0) = (!decide (q < 0) && decide (q ≠ 0)) := by
  apply Bool.eq_iff_iff.2
  simp
  constructor
  · intro h
    exact ⟨by grind, by grind⟩
  · rintro ⟨h1, h2⟩
    grind
end Go.Proofs.YtnddhohjfjlaiaaGreatDoor

/-
  Equal in all fields.
-/
namespace Go.Proofs.YtnddhohjfjlaiaaGreatDoor
open Go.RowKit
set_option linter.unusedVariables false
set_option linter.unusedSimpArgs false

end Go.Proofs.YtnddhohjfjlaiaaGreatDoor

/-
  The rational number of a dyadic number.
-/
namespace Go.Proofs.YtnddhohjfjlaiaaGreatDoor
open Go.RowKit
set_option linter.unusedVariables false
set_option linter.unusedSimpArgs false

theorem rShl_L (A : Option Addr) (n c : Nat) (xs : List Nat) (w : World) (k X L : Nat) (z : Int) (hz : z = (k : Int)) (hX : val xs * 2 ^ k = X) (hL : (dg X).length = L) (h : Rd w A n c xs) (hn : n ≤ 1048576) (hk : k ≤ 1048576) :
    Calls Tryz.prog 36 #[.slice A n c, .int .i64 z] w fun e w' => ∃ A1 c1, e = .returned (.tuple #[.slice A1 L c1, .int .i64 0]) ∧ Rd w' A1 L c1 (dg X) ∧ Below w.heap.size w w' := by
  subst hX hL hz
  exact rShl_ok A n c xs w k h hn hk
theorem iq_frac (w : World) (s : Bool) (A B : Option Addr) (n c m d : Nat) (xs : List Nat) (k : Nat) (h : Rd w A n c xs) (h2 : Rd w B m d (dg (1 * 2 ^ k))) : Iq w s A n c B m d (dvl s (val xs) (-(k : Int))) := by
  refine ⟨xs, _, h, h2, ?_⟩
  have h0 := Nat.two_pow_pos k
  have e1 : rden (dg (1 * 2 ^ k)) = 2 ^ k := by
    unfold rden
    rw [val_dg, Nat.one_mul, if_neg (by omega)]
  unfold rv dvl
  rw [e1, int_p2]
  rfl
theorem Iq.to {w : World} {s : Bool} {A B : Option Addr} {n c m d : Nat} {p q : Rat} (h : Iq w s A n c B m d q) (e : q = p) : Iq w s A n c B m d p := e ▸ h
theorem iq_whole (w : World) (s : Bool) (A : Option Addr) (n c : Nat) (X k : Nat) (h : Rd w A n c (dg (X * 2 ^ k))) : Iq w s A n c none 0 0 (dvl s X (k : Int)) := by
  refine ⟨_, [], h, Rd.empty _ _ _, ?_⟩
  have e1 : rden [] = 1 := rfl
  unfold rv dvl
  rw [e1, p2_nat', ← Rat.intCast_mul, iv, val_dg]
  have e2 : (if s = true then -((X * 2 ^ k : Nat) : Int) else ((X * 2 ^ k : Nat) : Int)) = (if s = true then -(X : Int) else (X : Int)) * ((2 ^ k : Nat) : Int) := by
    cases s <;> simp [Int.natCast_mul, Int.neg_mul]
  rw [e2]
  have := rat_mk (n := (if s = true then -(X : Int) else (X : Int)) * ((2 ^ k : Nat) : Int)) (d := 1) (by decide) (by simp)
  exact Rat.ext this.1 this.2
theorem shl_len {X k n j : Nat} (hX : X < pw n) (hk : k < 32 * j) : (dg (X * 2 ^ k)).length ≤ n + j := by
  refine dg_le ?_
  refine Nat.lt_of_lt_of_le (Nat.mul_lt_mul_of_lt_of_le hX (Nat.pow_le_pow_right (by decide) (Nat.le_of_lt hk)) (Nat.two_pow_pos _)) ?_
  rw [← pw_pow j]
  exact Nat.le_of_eq (pw_add n j).symm
theorem ryrat_neg (s : Bool) (A : Option Addr) (n c : Nat) (e : Int) (q : Rat) (w : World) (h : Cy w s A n c e q) (hn : n ≤ 8000) (k : Nat) (hk : e = -(k : Int)) (h0 : 0 < k) (hk2 : k < 32 * 8000) :
    Calls Tryz.prog 22 #[.agg #[.bool s, .slice A n c, .int .i64 e]] w (GQ w q) := by
  obtain ⟨L, hL⟩ : ∃ L, (dg (1 * 2 ^ k)).length = L := ⟨_, rfl⟩
  have hLk : L ≤ 8001 := by rw [← hL]; have := shl_len (X := 1) (n := 1) (j := 8000) (by decide) hk2; omega
  have HL := hide hL
  have d0 : decide (e < 0) = true := by simp; omega
  have HQ := hide (show dvl s (val (dg (dm q))) (-(k : Int)) = q by rw [val_dg, h.2.1, ← hk, h.2.2.1, dvl_of h.2.2.2])
  have h := h.1
  clear hL
  have HK := hide (And.intro hk h0)
  have hm1 : -256000 ≤ e := by omega
  have hm2 : e ≤ 0 := by omega
  have HZ := hide (show -e = (k : Int) by omega)
  clear hk
  have h_1 := h.alloc (EY s A n c e)
  have ba_1 : Sy ((w).alloc (EY s A n c e)) (w.heap.size) (.bool s) (.slice A n c) (.int .i64 e) := by have h_ := Sy.new (w) (.bool s) (.slice A n c) (.int .i64 e); exact h_
  have F1 := (Below.refl w.heap.size w).alloc (Nat.le_refl _) (EY s A n c e)
  have h_2 := h_1.alloc EQ0
  have ba_2 := ba_1.alloc EQ0
  have br_2 : Sq (((w).alloc (EY s A n c e)).alloc EQ0) (w.heap.size + 1) (.bool false) (.slice none 0 0) (.slice none 0 0) := by have h_ := Sq.new ((w).alloc (EY s A n c e)) (.bool false) (.slice none 0 0) (.slice none 0 0); simp only [World.size_alloc] at h_; exact h_
  have F2 := F1.alloc F1.size EQ0
  go_enter Tryz.func22, Tryz.ntmps22
  have ba_u2 := ba_2.cell0
  have ba_v2 := ba_2.cell1
  have ba_w2 := ba_2.cell2
  have br_u2 := br_2.cell0
  have br_v2 := br_2.cell1
  have br_w2 := br_2.cell2
  have h_3 := h_2.alloc (.cells #[.int .u32 1] 57)
  have ba_3 := ba_2.alloc (.cells #[.int .u32 1] 57)
  have br_3 := br_2.alloc (.cells #[.int .u32 1] 57)
  have F3 := F2.alloc F2.size (.cells #[.int .u32 1] 57)
  have one := rd_one (((w).alloc (EY s A n c e)).alloc EQ0) 1 (by omega)
  simp only [World.size_alloc] at one
  go_wp2_with fail
  refine (rShl_L _ _ _ _ _ k _ L _ HZ.out (by simp [val]) HL.out one (by omega) (by omega)).mono ?_
  rintro e w4 ⟨A4, c4, rfl, den, b4⟩
  have h_4 := h_3.below b4
  have one_4 := one.below b4
  have ba_4 := ba_3.below b4 ba_3.lt
  have br_4 := br_3.below b4 br_3.lt
  have F4 := below_then F3 (Nat.le_refl _) b4
  have ba_u4 := ba_4.cell0
  have ba_v4 := ba_4.cell1
  have ba_w4 := ba_4.cell2
  have br_u4 := br_4.cell0
  have br_v4 := br_4.cell1
  have br_w4 := br_4.cell2
  go_wp2_with fail
  refine (rcanon_q _ _ _ _ _ _ _ _ _ ((iq_frac _ s A A4 n c L c4 _ k h_4 den).to HQ.out) (by omega) (by omega)).mono ?_
  rintro e w5 ⟨s5, A5, n5, c5, B5, m5, d5, rfl, x, b5⟩
  have h_5 := h_4.below b5
  have den_5 := den.below b5
  have ba_5 := ba_4.below b5 ba_4.lt
  have br_5 := br_4.below b5 br_4.lt
  have F5 := below_then F4 (Nat.le_refl _) b5
  have ba_u5 := ba_5.cell0
  have ba_v5 := ba_5.cell1
  have ba_w5 := ba_5.cell2
  have br_u5 := br_5.cell0
  have br_v5 := br_5.cell1
  have br_w5 := br_5.cell2
  have br_f05 := br_5.frozen 0
  have br_f15 := br_5.frozen 1
  have br_f25 := br_5.frozen 2
  go_wp2_with fail
  refine bodyPost_ret (v := .agg #[.bool s5, .slice A5 n5 c5, .slice B5 m5 d5]) (by simp [results, Tryz.results22, go_sem, (br_5.set0 (.bool s5)).cell0, ((br_5.set0 (.bool s5)).set1 (.slice A5 n5 c5)).cell1, (((br_5.set0 (.bool s5)).set1 (.slice A5 n5 c5)).set2 (.slice B5 m5 d5)).cell2]) rfl (gq_end F5 (by omega) br_5 x)
theorem ryrat_pos (s : Bool) (A : Option Addr) (n c : Nat) (e : Int) (q : Rat) (w : World) (h : Cy w s A n c e q) (hn : n ≤ 8000) (k : Nat) (hk : e = (k : Int)) (hk2 : k < 32 * 8000) (hX : dm q < pw n) :
    Calls Tryz.prog 22 #[.agg #[.bool s, .slice A n c, .int .i64 e]] w (GQ w q) := by
  obtain ⟨L, hL⟩ : ∃ L, (dg (dm q * 2 ^ k)).length = L := ⟨_, rfl⟩
  have hLk : L ≤ 16000 := by rw [← hL]; have := shl_len (n := n) (j := 8000) hX hk2; omega
  have HL := hide hL
  have d0 : decide (e < 0) = false := by simp; omega
  have HQ := hide (show dvl s (dm q) (k : Int) = q by rw [h.2.1, ← hk, h.2.2.1, dvl_of h.2.2.2])
  clear hL
  subst hk
  have h := h.1
  have h_1 := h.alloc (EY s A n c (k : Int))
  have ba_1 : Sy ((w).alloc (EY s A n c (k : Int))) (w.heap.size) (.bool s) (.slice A n c) (.int .i64 (k : Int)) := by have h_ := Sy.new (w) (.bool s) (.slice A n c) (.int .i64 (k : Int)); exact h_
  have F1 := (Below.refl w.heap.size w).alloc (Nat.le_refl _) (EY s A n c (k : Int))
  have h_2 := h_1.alloc EQ0
  have ba_2 := ba_1.alloc EQ0
  have br_2 : Sq (((w).alloc (EY s A n c (k : Int))).alloc EQ0) (w.heap.size + 1) (.bool false) (.slice none 0 0) (.slice none 0 0) := by have h_ := Sq.new ((w).alloc (EY s A n c (k : Int))) (.bool false) (.slice none 0 0) (.slice none 0 0); simp only [World.size_alloc] at h_; exact h_
  have F2 := F1.alloc F1.size EQ0
  go_enter Tryz.func22, Tryz.ntmps22
  have ba_u2 := ba_2.cell0
  have ba_v2 := ba_2.cell1
  have ba_w2 := ba_2.cell2
  have br_u2 := br_2.cell0
  have br_v2 := br_2.cell1
  have br_w2 := br_2.cell2
  go_wp2_with fail
  refine (rShl_L _ _ _ _ _ k _ L _ rfl (by rw [val_dg]) HL.out h_2 (by omega) (by omega)).mono ?_
  rintro e w3 ⟨A3, c3, rfl, num, b3⟩
  have h_3 := h_2.below b3
  have ba_3 := ba_2.below b3 ba_2.lt
  have br_3 := br_2.below b3 br_2.lt
  have F3 := below_then F2 (Nat.le_refl _) b3
  have ba_u3 := ba_3.cell0
  have ba_v3 := ba_3.cell1
  have ba_w3 := ba_3.cell2
  have br_u3 := br_3.cell0
  have br_v3 := br_3.cell1
  have br_w3 := br_3.cell2
  go_wp2_with fail
  refine (rcanon_q _ _ _ _ _ _ _ _ _ ((iq_whole _ s A3 L c3 (dm q) k num).to HQ.out) (by omega) (by omega)).mono ?_
  rintro e w4 ⟨s4, A4, n4, c4, B4, m4, d4, rfl, x, b4⟩
  have h_4 := h_3.below b4
  have num_4 := num.below b4
  have ba_4 := ba_3.below b4 ba_3.lt
  have br_4 := br_3.below b4 br_3.lt
  have F4 := below_then F3 (Nat.le_refl _) b4
  have ba_u4 := ba_4.cell0
  have ba_v4 := ba_4.cell1
  have ba_w4 := ba_4.cell2
  have br_u4 := br_4.cell0
  have br_v4 := br_4.cell1
  have br_w4 := br_4.cell2
  have br_f04 := br_4.frozen 0
  have br_f14 := br_4.frozen 1
  have br_f24 := br_4.frozen 2
  go_wp2_with fail
  refine bodyPost_ret (v := .agg #[.bool s4, .slice A4 n4 c4, .slice B4 m4 d4]) (by simp [results, Tryz.results22, go_sem, (br_4.set0 (.bool s4)).cell0, ((br_4.set0 (.bool s4)).set1 (.slice A4 n4 c4)).cell1, (((br_4.set0 (.bool s4)).set1 (.slice A4 n4 c4)).set2 (.slice B4 m4 d4)).cell2]) rfl (gq_end F4 (by omega) br_4 x)
theorem ryrat (s : Bool) (A : Option Addr) (n c : Nat) (e : Int) (q : Rat) (w : World) (h : Cy w s A n c e q) (hn : n ≤ 8000) (he : -256000 < e ∧ e < 256000) :
    Calls Tryz.prog 22 #[.agg #[.bool s, .slice A n c, .int .i64 e]] w (GQ w q) := by
  rcases Int.lt_or_le e 0 with h0 | h0
  · exact ryrat_neg s A n c e q w h hn (-e).toNat (by omega) (by omega) (by omega)
  · exact ryrat_pos s A n c e q w h hn e.toNat (by omega) (by omega) (by have := rd_lt h.1 (Nat.le_refl n); rwa [val_dg] at this)
end Go.Proofs.YtnddhohjfjlaiaaGreatDoor

/-
  The dyadic number that is equal to a rational number.
-/
namespace Go.Proofs.YtnddhohjfjlaiaaGreatDoor
open Go.RowKit
set_option linter.unusedVariables false
set_option linter.unusedSimpArgs false

theorem bl_uniq {x b : Nat} (h1 : x < 2 ^ b) (h2 : 1 ≤ b) (h3 : 2 ^ (b - 1) ≤ x) : bl x = b := by
  have h4 := bl_iff.2 h1
  rcases Nat.lt_or_eq_of_le h4 with h | h
  · have := bl_iff.1 (show bl x ≤ b - 1 by omega)
    omega
  · exact h
theorem nb_bl {xs : List Nat} (hs : Sm xs) : nb xs = bl (val xs) := by
  by_cases h0 : val xs = 0
  · rw [(nb_zero hs).2 h0, h0]
    rfl
  · have ht : tlen xs ≠ 0 := fun h => h0 (tlen_zero_iff.1 h)
    have htop := tlen_top ht
    have hsm := hs.lim (tlen xs - 1)
    have hup := (nb_any hs).2
    have hnb : nb xs = 32 * (tlen xs - 1) + Lib.bitLen (lim xs (tlen xs - 1)) := by unfold nb; rw [if_neg ht]
    obtain ⟨h1, h2, h3⟩ := Lib.bitLenAux_bounds 64 (lim xs (tlen xs - 1)) (by omega) htop
    have h1' : 1 ≤ Lib.bitLen (lim xs (tlen xs - 1)) := h1
    have h2' : 2 ^ (Lib.bitLen (lim xs (tlen xs - 1)) - 1) ≤ lim xs (tlen xs - 1) := h2
    clear h1 h2 h3
    refine (bl_uniq hup (by omega) ?_).symm
    rw [hnb]
    rw [show 32 * (tlen xs - 1) + Lib.bitLen (lim xs (tlen xs - 1)) - 1 = 32 * (tlen xs - 1) + (Lib.bitLen (lim xs (tlen xs - 1)) - 1) by omega, Nat.pow_add, ← pw_pow]
    have e := pv_succ xs (tlen xs - 1)
    rw [show tlen xs - 1 + 1 = tlen xs by omega] at e
    have e2 : pv xs (tlen xs) = val xs := by
      have : pv xs (tlen xs) = val (xs.take (tlen xs)) := rfl
      rw [this, val_trim hs]
    have hm := Nat.mul_le_mul_left (pw (tlen xs - 1)) h2'
    omega
theorem rbits_bl (A : Option Addr) (n c : Nat) (xs : List Nat) (w : World) (X r : Nat) (hX : val xs = X) (hr : bl X = r) (h : Rd w A n c xs) (hn : n ≤ 1048576) : Calls Tryz.prog 83 #[.slice A n c] w (Asks w (.int .i64 (r : Int))) :=
  rbits_calls A n c xs w r (by rw [nb_bl h.sm, hX, hr]) h hn
theorem de_bd {q : Rat} {k : Nat} (h : Qs k q) : -(32 * k : Int) ≤ de q ∧ de q ≤ 32 * k := by
  obtain ⟨h1, h2⟩ := h
  rw [pw_pow] at h1 h2
  have h3 : q.den.log2 < 32 * k := (Nat.log2_lt q.den_nz).2 h2
  have h4 : tw q.num.natAbs ≤ 32 * k := by
    by_cases h0 : q.num.natAbs = 0
    · rw [h0, tw_zero]; exact Nat.zero_le _
    · exact Nat.le_of_lt (tw_lt h1 h0)
  unfold de
  omega
theorem dvl_den1 {q : Rat} (h : q.den = 1) : dvl (decide (q.num < 0)) (val (dg q.num.natAbs)) 0 = q := by
  have e : Isd q := by unfold Isd; rw [h]; rfl
  unfold dvl
  rw [p2_zero, Rat.mul_one, val_dg]
  have e1 : (if decide (q.num < 0) = true then -(q.num.natAbs : Int) else (q.num.natAbs : Int)) = q.num := by
    split <;> rename_i h0 <;> rw [decide_eq_true_eq] at h0 <;> omega
  rw [e1]
  exact Rat.ext rfl h.symm
theorem dvl_den {q : Rat} (h : Isd q) : dvl (decide (q.num < 0)) (val (dg q.num.natAbs)) (-(q.den.log2 : Int)) = q := by
  unfold dvl
  rw [val_dg]
  have e1 : (if decide (q.num < 0) = true then -(q.num.natAbs : Int) else (q.num.natAbs : Int)) = q.num := by
    split <;> rename_i h0 <;> rw [decide_eq_true_eq] at h0 <;> omega
  rw [e1, int_p2, ← h, Rat.mkRat_self]
theorem rcan_z (s : Bool) (A : Option Addr) (n c : Nat) (xs : List Nat) (z e : Int) (q : Rat) (w : World) (hz : z = e) (h : Rd w A n c xs) (hn : n ≤ 1000000) (hq : dvl s (val xs) e = q) (he : -1000000000 ≤ e ∧ e ≤ 1000000000) (hr : -1048576 ≤ de q ∧ de q ≤ 1048576) :
    Calls Tryz.prog 59 #[.bool s, .slice A n c, .int .i64 z] w (GDB w q true) := hz ▸ rcan_q s A n c xs e q w h hn hq he hr
theorem qd_two {q : Rat} {K : Nat} (hK : q.den.log2 = K) (h1 : q.den ≠ 1) : dg (2 ^ K) = qd q ↔ Isd q := by
  refine ⟨fun h => ?_, fun h => ?_⟩
  · unfold qd at h
    rw [if_neg h1] at h
    have := congrArg val h
    rw [val_dg, val_dg] at this
    unfold Isd
    rw [hK, this]
  · unfold qd
    rw [if_neg h1, ← hK, ← h]
end Go.Proofs.YtnddhohjfjlaiaaGreatDoor

/-
  The comparison.
-/
namespace Go.Proofs.YtnddhohjfjlaiaaGreatDoor
open Go.RowKit
set_option linter.unusedVariables false
set_option linter.unusedSimpArgs false

theorem Cy.size {w : World} {s : Bool} {A : Option Addr} {n c : Nat} {e : Int} {q : Rat} (h : Cy w s A n c e q) {k : Nat} (hq : Qs k q) : n ≤ k ∧ -(32 * k : Int) ≤ e ∧ e ≤ 32 * k := by
  have hd := de_bd hq
  rw [h.2.2.1]
  exact ⟨h.ln (Nat.lt_of_le_of_lt (odp_le _) hq.1), hd⟩
end Go.Proofs.YtnddhohjfjlaiaaGreatDoor

/-
  The product.
-/
namespace Go.Proofs.YtnddhohjfjlaiaaGreatDoor
open Go.RowKit
set_option linter.unusedVariables false
set_option linter.unusedSimpArgs false

theorem dvl_mul (s t : Bool) (m k : Nat) (e x : Int) : dvl (!s == t) (m * k) (e + x) = dvl s m e * dvl t k x := by
  unfold dvl
  have e1 : (if (!s == t) = true then -((m * k : Nat) : Int) else ((m * k : Nat) : Int)) = (if s = true then -(m : Int) else (m : Int)) * (if t = true then -(k : Int) else (k : Int)) := by
    cases s <;> cases t <;> simp [Int.natCast_mul, Int.neg_mul, Int.mul_neg]
  rw [e1, p2_add, Rat.intCast_mul]
  grind
theorem rcan_p (s t s' : Bool) (hs : s' = (!s == t)) (A : Option Addr) (n c : Nat) (X Y : Nat) (e x z : Int) (hz : z = e + x) (p q : Rat) (w : World) (h : Rd w A n c (dg (X * Y))) (hn : n ≤ 1000000) (hp : dvl s X e = p) (hq : dvl t Y x = q) (he : -400000000 ≤ e ∧ e ≤ 400000000) (hx : -400000000 ≤ x ∧ x ≤ 400000000) (hr : -1048576 ≤ de (p * q) ∧ de (p * q) ≤ 1048576) :
    Calls Tryz.prog 59 #[.bool s', .slice A n c, .int .i64 z] w (GDB w (p * q) true) := by
  subst hs hz
  exact rcan_q _ _ _ _ _ _ _ _ h hn (by rw [val_dg, dvl_mul, hp, hq]) (by omega) hr
theorem rcan_pb (s t s' : Bool) (hs : s' = (!s == t)) (A : Option Addr) (n c : Nat) (X Y : Nat) (e x z : Int) (hz : z = e + x) (p q : Rat) (w : World) (h : Rd w A n c (dg (X * Y))) (hn : n ≤ 1000000) (hp : dvl s X e = p) (hq : dvl t Y x = q) (he : -400000000 ≤ e ∧ e ≤ 400000000) (hx : -400000000 ≤ x ∧ x ≤ 400000000) (h0 : p * q ≠ 0) (hr : de (p * q) < -1048576 ∨ 1048576 < de (p * q)) (hr9 : de (p * q) ≤ 1000000000) :
    Calls Tryz.prog 59 #[.bool s', .slice A n c, .int .i64 z] w (GDB w 0 false) := by
  subst hs hz
  exact rcan_bad _ _ _ _ _ _ _ _ h hn (by rw [val_dg, dvl_mul, hp, hq]) (by omega) h0 hr hr9
end Go.Proofs.YtnddhohjfjlaiaaGreatDoor
