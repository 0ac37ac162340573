/-
  Out of range; canonical or not.
-/
import Derived.Test.YthiapkalmmgliaaDoorK4
namespace Go.Proofs.YthiapkalmmgliaaDoor
open Go.RowKit
set_option linter.unusedVariables false
set_option linter.unusedSimpArgs false

theorem rcan_bad (s : Bool) (A : Option Addr) (n c : Nat) (xs : List Nat) (e : Int) (q : Rat) (w : World) (h : Rd w A n c xs) (hn : n ≤ 1000000) (hq : dvl s (val xs) e = q) (he : -1000000000 ≤ e ∧ e ≤ 1000000000) (h00 : q ≠ 0) (hr : de q < -1048576 ∨ 1048576 < de q) (hr9 : de q ≤ 1000000000) :
    Calls Tryd.prog 46 #[.bool s, .slice A n c, .int .i64 e] w (GDB w 0 false) := by
  by_cases h0 : val xs = 0
  · rw [h0, dvl_zero] at hq
    exact absurd hq.symm h00
  obtain ⟨p1, p2, p3, p4⟩ := dvl_parts s (val xs) e h0
  rw [hq] at p1 p2 p3 p4
  obtain ⟨L, hL⟩ : ∃ L, (dg (val xs)).length = L := ⟨_, rfl⟩
  have hL0 : L ≠ 0 := by rw [← hL]; intro hh; exact h0 (dg_nil_iff.1 (List.eq_nil_of_length_eq_zero hh))
  have hLn : L ≤ 1000000 := by rw [← hL, len_dg_val h.sm]; have := tlen_le xs; have := h.len; omega
  have e0 : (((L : Nat) : Int) == 0) = false := by simp [hL0]
  have HL := hide hL
  have HT := hide (show val xs ≠ 0 ∧ odp (val xs) = dm q ∧ e + tw (val xs) = de q ∧ e ≤ e ∧ e ≤ de q by refine ⟨h0, p2.symm, p3.symm, Int.le_refl _, by omega⟩)
  have HP := hide (And.intro p1 p4)
  have HR := hide (And.intro hr hr9)
  have HE := hide he
  clear hL hL0 p1 p2 p3 p4 hq he h0 h00 hr hr9
  have h1 := h.alloc EY0
  have F1 := (Below.refl w.heap.size w).alloc (Nat.le_refl _) EY0
  have S1 : Sy (w.alloc EY0) w.heap.size (.bool false) (.slice none 0 0) (.int .i64 0) := Sy.new w _ _ _
  go_enter Tryd.func46, Tryd.ntmps46
  go_wp2_with fail
  refine (rmake_L _ _ _ _ _ (val xs) L rfl HL.out h1 (by omega)).mono ?_
  rintro e_ w2 ⟨A1, c1, rfl, hr, b2⟩
  have S2 := S1.below b2 S1.lt
  have F2 := below_then F1 (Nat.le_refl _) b2
  go_wp2_with fail
  go_loopw [1, 2] (fun mv ev wr => CanRel q (de q) e w.heap.size w mv ev wr) (fun mv _ wr => vOf wr mv)
  case atStart => exact ⟨_, _, _, _, _, rfl, rfl, hr, S2, F2, hLn, HT⟩
  case round =>
    obtain ⟨m, B, K, d, x, rfl, rfl, k1, k2, k3, k4, HM⟩ := hrel
    have hl := k1.len
    have hK : 0 < K := by
      rcases Nat.eq_zero_or_pos K with hh | hh
      · exact absurd (dg_nil_iff.1 (List.eq_nil_of_length_eq_zero (hl.trans hh))) HM.out.1
      · exact hh
    obtain ⟨bb, off, rfl, hlt, hc0⟩ := k1.get0 hK
    have hlim : lim (dg m) 0 % 2 = m % 2 := by rw [lim_mod2, val_dg]
    have hsm : lim (dg m) 0 < 4294967296 := k1.sm.lim 0
    have hand := and_one (lim (dg m) 0) hsm
    have hk0 : decide ((K : Int) ≤ 0) = false := by simp; omega
    rcases Nat.mod_two_eq_zero_or_one m with hm | hm
    · rw [hlim, hm] at hand
      have HS := hide (by
        have := rShr_ok (some ⟨bb, off, none⟩) K d _ wr 1 k1 (by omega) (by omega)
        rwa [val_dg, Nat.pow_one] at this : Calls Tryd.prog 80 #[.slice (some ⟨bb, off, none⟩) K d, .int .i64 1] wr (GivesE wr (dg (m / 2)) 0))
      have HB := hide (show -1000000001 ≤ x ∧ x ≤ 1000000001 by have := HM.out.2.2.2; have := HE.out; have := HR.out; omega)
      have hx1 := HB.out.1
      have hx2 := HB.out.2
      have HK2 := hide (And.intro hl hm)
      clear hl hm hlim hsm
      go_wp2_with fail
      refine (unhide HS).mono ?_
      rintro e_ w4 ⟨A4, c4, rfl, hr4, b4⟩
      have k2' := k2.below b4 k2.lt
      have k3' := below_then k3 (Nat.le_refl _) b4
      go_wp2
      go_roundw
      case rel =>
        refine ⟨m / 2, A4, _, c4, x + 1, rfl, rfl, hr4, k2', k3', ?_, ?_⟩
        · have : (dg (m / 2)).length ≤ K := len_dg_le (Nat.lt_of_le_of_lt (Nat.div_le_self _ _) (lt_of_len (Nat.le_of_eq HK2.out.1)))
          omega
        · have hm := HK2.out.2
          obtain ⟨q1, q2, q3, q4, q5⟩ := HM.out
          have q6 := tw_even hm q1
          exact hide ⟨by omega, by rw [← odp_even hm q1]; exact q2, by omega, by omega, by omega⟩
      case measure =>
        show vOf _ (.slice A4 _ c4) < vOf _ (.slice (some ⟨bb, off, none⟩) K d)
        rw [vOf_eq hr4, vOf_eq k1, val_dg, val_dg]
        have := HM.out.1
        omega
    · rw [hlim, hm] at hand
      have hx : x = de q := by
        have := HM.out.2.2.1
        rw [tw_odd hm] at this
        omega
      have hmq : m = dm q := by rw [← HM.out.2.1, odp_odd hm]
      subst hx hmq
      have c0_ := k2.cell0
      have c1_ := k2.cell1
      have c2_ := k2.cell2
      have f0 := k2.frozen 0
      have f1 := k2.frozen 1
      have f2 := k2.frozen 2
      have a0 := k2.set0 (.bool false)
      have a1 := a0.set1 (.slice none 0 0)
      have a2 := a1.set2 (.int .i64 0)
      clear hl hlim hsm
      by_cases hlo : de q < -1048576
      · have d1 : decide (de q < -1048576) = true := by simp; omega
        go_wp2_with fail
        refine bodyPost_ret (v := .tuple #[.agg #[.bool false, .slice none 0 0, .int .i64 0], .bool false]) (by simp [results, Tryd.results46, go_sem, a2.cell0, a2.cell1, a2.cell2]) rfl (gdb_end false k3 (Nat.le_refl _) k2 (cy_zero _))
      · have d1 : decide (de q < -1048576) = false := by simp; omega
        have d2 : decide (1048576 < de q) = true := by have := HR.out.1; simp; omega
        go_wp2_with fail
        refine bodyPost_ret (v := .tuple #[.agg #[.bool false, .slice none 0 0, .int .i64 0], .bool false]) (by simp [results, Tryd.results46, go_sem, a2.cell0, a2.cell1, a2.cell2]) rfl (gdb_end false k3 (Nat.le_refl _) k2 (cy_zero _))
/-- The form is canonical. -/
def vb (s : Bool) (xs : List Nat) (e : Int) : Bool := if xs.length = 0 then !s && decide (e = 0) else decide (tlen xs = xs.length) && decide (lim xs 0 % 2 = 1) && decide (-1048576 ≤ e) && decide (e ≤ 1048576)
theorem ryvalid_odd (s : Bool) (bb off n c : Nat) (xs : List Nat) (e : Int) (b b3 b4 : Bool) (w : World) (h : Rd w (some ⟨bb, off, none⟩) n c xs) (h1 : Rd (w.alloc (EY s (some ⟨bb, off, none⟩) n c e)) (some ⟨bb, off, none⟩) n c xs) (hn : n ≤ 1048576) (hn0 : 0 < n)
    (hc0 : (w.alloc (EY s (some ⟨bb, off, none⟩) n c e)).cell? ⟨bb, off, none⟩ = some (.int .u32 (lim xs 0 : Nat))) (hand : bits .and .u32 (lim xs 0 : Int) 1 = ((1 : Nat) : Int)) (hk0 : decide ((n : Int) ≤ 0) = false) (e0 : (((n : Nat) : Int) == 0) = false) (F1 : Below w.heap.size w (w.alloc (EY s (some ⟨bb, off, none⟩) n c e)))
    (c0_ : (w.alloc (EY s (some ⟨bb, off, none⟩) n c e)).cell? ⟨w.heap.size, 0, none⟩ = some (.bool s)) (c1_ : (w.alloc (EY s (some ⟨bb, off, none⟩) n c e)).cell? ⟨w.heap.size, 1, none⟩ = some (.slice (some ⟨bb, off, none⟩) n c)) (c2_ : (w.alloc (EY s (some ⟨bb, off, none⟩) n c e)).cell? ⟨w.heap.size, 2, none⟩ = some (.int .i64 e))
    (HV : Hid (decide (tlen xs = n) = true)) (hb3 : decide (-1048576 ≤ e) = b3) (hb4 : decide (e ≤ 1048576) = b4) (HB : Hid ((true && true && b3 && b4) = b)) :
    Calls Tryd.prog 19 #[.agg #[.bool s, .slice (some ⟨bb, off, none⟩) n c, .int .i64 e]] w (Asks w (.bool b)) := by
  rcases b3 with _ | _
  · go_enter Tryd.func19, Tryd.ntmps19
    go_wp2_with fail
    refine (rvalid_calls _ _ _ _ _ h1 hn _ HV.out).mono ?_
    rintro e_ w' ⟨rfl, rfl⟩
    go_wp2_with fail
    refine bodyPost_ret (v := .bool b) (by simp [results, Tryd.results19, go_sem, ← HB.out]) rfl ⟨rfl, F1⟩
  · rcases b4 with _ | _
    · go_enter Tryd.func19, Tryd.ntmps19
      go_wp2_with fail
      refine (rvalid_calls _ _ _ _ _ h1 hn _ HV.out).mono ?_
      rintro e_ w' ⟨rfl, rfl⟩
      go_wp2_with fail
      refine bodyPost_ret (v := .bool b) (by simp [results, Tryd.results19, go_sem, ← HB.out]) rfl ⟨rfl, F1⟩
    · go_enter Tryd.func19, Tryd.ntmps19
      go_wp2_with fail
      refine (rvalid_calls _ _ _ _ _ h1 hn _ HV.out).mono ?_
      rintro e_ w' ⟨rfl, rfl⟩
      go_wp2_with fail
      refine bodyPost_ret (v := .bool b) (by simp [results, Tryd.results19, go_sem, ← HB.out]) rfl ⟨rfl, F1⟩
theorem ryvalid (s : Bool) (A : Option Addr) (n c : Nat) (xs : List Nat) (e : Int) (w : World) (h : Rd w A n c xs) (hn : n ≤ 1048576) :
    Calls Tryd.prog 19 #[.agg #[.bool s, .slice A n c, .int .i64 e]] w (Asks w (.bool (vb s xs e))) := by
  have h1 := h.alloc (EY s A n c e)
  have F1 := (Below.refl w.heap.size w).alloc (Nat.le_refl _) (EY s A n c e)
  have S1 : Sy (w.alloc (EY s A n c e)) w.heap.size (.bool s) (.slice A n c) (.int .i64 e) := Sy.new w _ _ _
  have c0_ := S1.cell0
  have c1_ := S1.cell1
  have c2_ := S1.cell2
  have hlen := h.len
  obtain ⟨b, hb⟩ : ∃ b, vb s xs e = b := ⟨_, rfl⟩
  rw [hb]
  by_cases h0 : n = 0
  · have e0 : (((n : Nat) : Int) == 0) = true := by simp [h0]
    unfold vb at hb
    rw [if_pos (by omega)] at hb
    by_cases he : e = 0
    · have e1 : (e == 0) = true := by simp [he]
      rw [decide_eq_true he] at hb
      have HB := hide hb
      have HH := hide (And.intro h0 (And.intro hlen he))
      clear hb h0 hlen he
      cases s
      · go_enter Tryd.func19, Tryd.ntmps19
        go_wp2_with fail
        refine bodyPost_ret (v := .bool b) (by simp [results, Tryd.results19, go_sem, ← HB.out]) rfl ⟨rfl, F1⟩
      · go_enter Tryd.func19, Tryd.ntmps19
        go_wp2_with fail
        refine bodyPost_ret (v := .bool b) (by simp [results, Tryd.results19, go_sem, ← HB.out]) rfl ⟨rfl, F1⟩
    · have e1 : (e == 0) = false := by simp [he]
      rw [decide_eq_false he] at hb
      have HB := hide hb
      have HH := hide (And.intro h0 (And.intro hlen he))
      clear hb h0 hlen he
      cases s
      · go_enter Tryd.func19, Tryd.ntmps19
        go_wp2_with fail
        refine bodyPost_ret (v := .bool b) (by simp [results, Tryd.results19, go_sem, ← HB.out]) rfl ⟨rfl, F1⟩
      · go_enter Tryd.func19, Tryd.ntmps19
        go_wp2_with fail
        refine bodyPost_ret (v := .bool b) (by simp [results, Tryd.results19, go_sem, ← HB.out]) rfl ⟨rfl, F1⟩
  · have e0 : (((n : Nat) : Int) == 0) = false := by simp [h0]
    have hn0 : 0 < n := by omega
    unfold vb at hb
    rw [if_neg (by omega)] at hb
    obtain ⟨bb, off, rfl, hlt, hc0⟩ := h1.get0 (by omega)
    have hsm := h.sm.lim 0
    have hand := and_one (lim xs 0) hsm
    have hk0 : decide ((n : Int) ≤ 0) = false := by simp; omega
    obtain ⟨b1, hb1⟩ : ∃ b1, decide (tlen xs = n) = b1 := ⟨_, rfl⟩
    obtain ⟨b2, hb2⟩ : ∃ b2, (((lim xs 0 % 2 : Nat) : Int) == 1) = b2 := ⟨_, rfl⟩
    obtain ⟨b3, hb3⟩ : ∃ b3, decide (-1048576 ≤ e) = b3 := ⟨_, rfl⟩
    obtain ⟨b4, hb4⟩ : ∃ b4, decide (e ≤ 1048576) = b4 := ⟨_, rfl⟩
    have hb2' : decide (lim xs 0 % 2 = 1) = b2 := by rw [← hb2]; apply Bool.eq_iff_iff.2; simp; omega
    rw [hlen, hb1, hb2', hb3, hb4] at hb
    have HV := hide hb1
    have HB := hide hb
    have HH := hide (And.intro h0 hlen)
    clear hb h0 hlen hb1 hb2' hsm
    rcases b1 with _ | _
    · go_enter Tryd.func19, Tryd.ntmps19
      go_wp2_with fail
      refine (rvalid_calls _ _ _ _ _ h1 hn _ HV.out).mono ?_
      rintro e_ w' ⟨rfl, rfl⟩
      go_wp2_with fail
      refine bodyPost_ret (v := .bool b) (by simp [results, Tryd.results19, go_sem, ← HB.out]) rfl ⟨rfl, F1⟩
    · rcases Nat.mod_two_eq_zero_or_one (lim xs 0) with hm | hm
      · rw [hm] at hand hb2
        obtain rfl : b2 = false := by rw [← hb2]; rfl
        clear hm hb2
        go_enter Tryd.func19, Tryd.ntmps19
        go_wp2_with fail
        refine (rvalid_calls _ _ _ _ _ h1 hn _ HV.out).mono ?_
        rintro e_ w' ⟨rfl, rfl⟩
        go_wp2_with fail
        refine bodyPost_ret (v := .bool b) (by simp [results, Tryd.results19, go_sem, ← HB.out]) rfl ⟨rfl, F1⟩
      · rw [hm] at hand hb2
        obtain rfl : b2 = true := by rw [← hb2]; rfl
        clear hm hb2
        exact ryvalid_odd s bb off n c xs e b b3 b4 w h h1 hn hn0 hc0 hand hk0 e0 F1 c0_ c1_ c2_ HV hb3 hb4 HB
end Go.Proofs.YthiapkalmmgliaaDoor
