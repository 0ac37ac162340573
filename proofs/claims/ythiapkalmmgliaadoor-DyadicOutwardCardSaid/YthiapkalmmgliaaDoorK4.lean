/-
  The canonical form.
-/
import Derived.Test.YthiapkalmmgliaaDoorK3
namespace Go.Proofs.YthiapkalmmgliaaDoor
open Go.RowKit
set_option linter.unusedVariables false
set_option linter.unusedSimpArgs false

theorem lim_mod2 (xs : List Nat) : lim xs 0 % 2 = val xs % 2 := by
  cases xs with
  | nil => rfl
  | cons x l =>
    show (x : Nat) % 2 = (x + 4294967296 * val l) % 2
    omega
theorem and_one (a : Nat) (ha : a < 4294967296) : bits .and .u32 (a : Int) 1 = ((a % 2 : Nat) : Int) := by
  have := u32_and_nat a 1 ha (by omega)
  rw [Nat.and_one_is_mod] at this
  exact this
def CanRel (q : Rat) (T e0 : Int) (g : Nat) (w : World) (mv ev : Value) (wr : World) : Prop :=
  ∃ (m : Nat) (A : Option Addr) (L c : Nat) (x : Int), mv = .slice A L c ∧ ev = .int .i64 x ∧ Rd wr A L c (dg m) ∧ Sy wr g (.bool false) (.slice none 0 0) (.int .i64 0) ∧ Below w.heap.size w wr ∧ L ≤ 1000000 ∧ Hid (m ≠ 0 ∧ odp m = dm q ∧ x + tw m = T ∧ e0 ≤ x ∧ x ≤ T)
theorem tw_lt {n k : Nat} (h : n < 2 ^ k) (h0 : n ≠ 0) : tw n < k := by
  have h1 := (odp_tw h0).2
  have h2 := (odp_tw h0).1
  have h3 : 2 ^ tw n ≤ n := by
    have : 1 * 2 ^ tw n ≤ odp n * 2 ^ tw n := Nat.mul_le_mul_right _ (by omega)
    omega
  exact (Nat.pow_lt_pow_iff_right (by decide : 1 < 2)).1 (Nat.lt_of_le_of_lt h3 h)
theorem rcan_zero (s : Bool) (A : Option Addr) (n c : Nat) (xs : List Nat) (e : Int) (w : World) (h : Rd w A n c xs) (hn : n ≤ 1000000) (h0 : val xs = 0) :
    Calls Tryd.prog 46 #[.bool s, .slice A n c, .int .i64 e] w (GDB w 0 true) := by
  have h1 := h.alloc EY0
  have F1 := (Below.refl w.heap.size w).alloc (Nat.le_refl _) EY0
  have S1 : Sy (w.alloc EY0) w.heap.size (.bool false) (.slice none 0 0) (.int .i64 0) := Sy.new w _ _ _
  have HL := hide (show (dg 0).length = 0 by rfl)
  go_enter Tryd.func46, Tryd.ntmps46
  go_wp2_with fail
  refine (rmake_L _ _ _ _ _ 0 0 h0 HL.out h1 (by omega)).mono ?_
  rintro e w2 ⟨A1, c1, rfl, hr, b2⟩
  have S2 := S1.below b2 S1.lt
  have F2 := below_then F1 (Nat.le_refl _) b2
  have c0_ := S2.cell0
  have c1_ := S2.cell1
  have c2_ := S2.cell2
  have f0 := S2.frozen 0
  have f1 := S2.frozen 1
  have f2 := S2.frozen 2
  go_wp2_with fail
  have a0 := S2.set0 (.bool false)
  have a1 := a0.set1 (.slice none 0 0)
  have a2 := a1.set2 (.int .i64 0)
  refine bodyPost_ret (v := .tuple #[.agg #[.bool false, .slice none 0 0, .int .i64 0], .bool true]) (by simp [results, Tryd.results46, go_sem, a2.cell0, a2.cell1, a2.cell2]) rfl (gdb_end true F2 (Nat.le_refl _) S2 (cy_zero _))
theorem rcan_q (s : Bool) (A : Option Addr) (n c : Nat) (xs : List Nat) (e : Int) (q : Rat) (w : World) (h : Rd w A n c xs) (hn : n ≤ 1000000) (hq : dvl s (val xs) e = q) (he : -1000000000 ≤ e ∧ e ≤ 1000000000) (hr : -1048576 ≤ de q ∧ de q ≤ 1048576) :
    Calls Tryd.prog 46 #[.bool s, .slice A n c, .int .i64 e] w (GDB w q true) := by
  by_cases h0 : val xs = 0
  · rw [h0, dvl_zero] at hq
    subst hq
    exact rcan_zero s A n c xs e w h hn h0
  obtain ⟨p1, p2, p3, p4⟩ := dvl_parts s (val xs) e h0
  rw [hq] at p1 p2 p3 p4
  obtain ⟨L, hL⟩ : ∃ L, (dg (val xs)).length = L := ⟨_, rfl⟩
  have hL0 : L ≠ 0 := by rw [← hL]; intro hh; exact h0 (dg_nil_iff.1 (List.eq_nil_of_length_eq_zero hh))
  have hLn : L ≤ 1000000 := by rw [← hL, len_dg_val h.sm]; have := tlen_le xs; have := h.len; omega
  have e0 : (((L : Nat) : Int) == 0) = false := by simp [hL0]
  have HL := hide hL
  have HT := hide (show val xs ≠ 0 ∧ odp (val xs) = dm q ∧ e + tw (val xs) = de q ∧ e ≤ e ∧ e ≤ de q by refine ⟨h0, p2.symm, p3.symm, Int.le_refl _, by omega⟩)
  have HP := hide (And.intro p1 p4)
  have HR := hide hr
  have HE := hide he
  clear hL hL0 p1 p2 p3 p4 hq he h0 hr
  have h1 := h.alloc EY0
  have F1 := (Below.refl w.heap.size w).alloc (Nat.le_refl _) EY0
  have S1 : Sy (w.alloc EY0) w.heap.size (.bool false) (.slice none 0 0) (.int .i64 0) := Sy.new w _ _ _
  go_enter Tryd.func46, Tryd.ntmps46
  go_wp2_with fail
  refine (rmake_L _ _ _ _ _ (val xs) L rfl HL.out h1 (by omega)).mono ?_
  rintro e_ w2 ⟨A1, c1, rfl, hr, b2⟩
  have S2 := S1.below b2 S1.lt
  have F2 := below_then F1 (Nat.le_refl _) b2
  go_wp2_with fail
  go_loopw [1, 2] (fun mv ev wr => CanRel q (de q) e w.heap.size w mv ev wr) (fun mv _ wr => vOf wr mv)
  case atStart => exact ⟨_, _, _, _, _, rfl, rfl, hr, S2, F2, hLn, HT⟩
  case round =>
    obtain ⟨m, B, K, d, x, rfl, rfl, k1, k2, k3, k4, HM⟩ := hrel
    have hl := k1.len
    have hK : 0 < K := by
      rcases Nat.eq_zero_or_pos K with hh | hh
      · exact absurd (dg_nil_iff.1 (List.eq_nil_of_length_eq_zero (hl.trans hh))) HM.out.1
      · exact hh
    obtain ⟨bb, off, rfl, hlt, hc0⟩ := k1.get0 hK
    have hlim : lim (dg m) 0 % 2 = m % 2 := by rw [lim_mod2, val_dg]
    have hsm : lim (dg m) 0 < 4294967296 := k1.sm.lim 0
    have hand := and_one (lim (dg m) 0) hsm
    have hk0 : decide ((K : Int) ≤ 0) = false := by simp; omega
    rcases Nat.mod_two_eq_zero_or_one m with hm | hm
    · rw [hlim, hm] at hand
      have HS := hide (by
        have := rShr_ok (some ⟨bb, off, none⟩) K d _ wr 1 k1 (by omega) (by omega)
        rwa [val_dg, Nat.pow_one] at this : Calls Tryd.prog 80 #[.slice (some ⟨bb, off, none⟩) K d, .int .i64 1] wr (GivesE wr (dg (m / 2)) 0))
      have HB := hide (show -1000000001 ≤ x ∧ x ≤ 1048577 by have := HM.out.2.2.2; have := HE.out; have := HR.out; omega)
      have hx1 := HB.out.1
      have hx2 := HB.out.2
      have HK2 := hide (And.intro hl hm)
      clear hl hm hlim hsm
      go_wp2_with fail
      refine (unhide HS).mono ?_
      rintro e_ w4 ⟨A4, c4, rfl, hr4, b4⟩
      have k2' := k2.below b4 k2.lt
      have k3' := below_then k3 (Nat.le_refl _) b4
      go_wp2
      go_roundw
      case rel =>
        refine ⟨m / 2, A4, _, c4, x + 1, rfl, rfl, hr4, k2', k3', ?_, ?_⟩
        · have : (dg (m / 2)).length ≤ K := len_dg_le (Nat.lt_of_le_of_lt (Nat.div_le_self _ _) (lt_of_len (Nat.le_of_eq HK2.out.1)))
          omega
        · have hm := HK2.out.2
          obtain ⟨q1, q2, q3, q4, q5⟩ := HM.out
          have q6 := tw_even hm q1
          exact hide ⟨by omega, by rw [← odp_even hm q1]; exact q2, by omega, by omega, by omega⟩
      case measure =>
        show vOf _ (.slice A4 _ c4) < vOf _ (.slice (some ⟨bb, off, none⟩) K d)
        rw [vOf_eq hr4, vOf_eq k1, val_dg, val_dg]
        have := HM.out.1
        omega
    · rw [hlim, hm] at hand
      have hx : x = de q := by
        have := HM.out.2.2.1
        rw [tw_odd hm] at this
        omega
      have hmq : m = dm q := by rw [← HM.out.2.1, odp_odd hm]
      subst hx hmq
      have hr1 := HR.out.1
      have hr2 := HR.out.2
      have d1 : decide (de q < -1048576) = false := by simp; omega
      have d2 : decide (1048576 < de q) = false := by simp; omega
      have c0_ := k2.cell0
      have c1_ := k2.cell1
      have c2_ := k2.cell2
      have f0 := k2.frozen 0
      have f1 := k2.frozen 1
      have f2 := k2.frozen 2
      clear hl hlim hsm
      go_wp2_with fail
      have a0 := k2.set0 (.bool s)
      have a1 := a0.set1 (.slice (some ⟨bb, off, none⟩) K d)
      have a2 := a1.set2 (.int .i64 (de q))
      refine bodyPost_ret (v := .tuple #[.agg #[.bool s, .slice (some ⟨bb, off, none⟩) K d, .int .i64 (de q)], .bool true]) (by simp [results, Tryd.results46, go_sem, a2.cell0, a2.cell1, a2.cell2]) rfl (gdb_end true k3 (Nat.le_refl _) k2 ⟨k1, HP.out.2.symm, rfl, HP.out.1⟩)
end Go.Proofs.YthiapkalmmgliaaDoor
