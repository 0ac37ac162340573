/-
  Valid, Neg.
-/
import Derived.Test.YthiapkalmmgliaaDoorEd
namespace Go.Proofs.YthiapkalmmgliaaDoor
open Go.RowKit
set_option linter.unusedVariables false
set_option linter.unusedSimpArgs false

theorem yvalid_nil (s : Bool) (A : Option Addr) (c : Nat) (e : Int) (b : Bool) (w : World) (hb : (!s && decide (e = 0)) = b) :
    Calls Tryd.prog 15 #[.agg #[.bool s, .slice A 0 c, .int .i64 e]] w (Asks w (.bool b)) := by
  have S1 : Sy (w.alloc (EY s A 0 c e)) w.heap.size (.bool s) (.slice A 0 c) (.int .i64 e) := Sy.new w _ _ _
  have F1 := (Below.refl w.heap.size w).alloc (Nat.le_refl _) (EY s A 0 c e)
  have c0_ := S1.cell0
  have c1_ := S1.cell1
  have c2_ := S1.cell2
  obtain ⟨r, hr⟩ : ∃ r, (e == 0) = r := ⟨_, rfl⟩
  have hr2 : decide (e = 0) = r := by rw [← hr]; rfl
  rw [hr2] at hb
  clear hr2
  subst hb
  cases s
  all_goals
    go_enter Tryd.func15, Tryd.ntmps15
    go_wp2_with fail
    refine bodyPost_ret (v := .bool _) (by simp [results, Tryd.results15, go_sem]; try rfl) rfl ⟨by simp, F1⟩
theorem yvalid_a (s : Bool) (bb off n c : Nat) (xs : List Nat) (e : Int) (w : World) (h : Rd w (some ⟨bb, off, none⟩) n c xs) (hn : n ≤ 1048576) (hn0 : 0 < n) (hv : decide (tlen xs = n) = false) :
    Calls Tryd.prog 15 #[.agg #[.bool s, .slice (some ⟨bb, off, none⟩) n c, .int .i64 e]] w (Asks w (.bool false)) := by
  have h1 := h.alloc (EY s (some ⟨bb, off, none⟩) n c e)
  have F1 := (Below.refl w.heap.size w).alloc (Nat.le_refl _) (EY s (some ⟨bb, off, none⟩) n c e)
  have S1 : Sy (w.alloc (EY s (some ⟨bb, off, none⟩) n c e)) w.heap.size (.bool s) (.slice (some ⟨bb, off, none⟩) n c) (.int .i64 e) := Sy.new w _ _ _
  have c0_ := S1.cell0
  have c1_ := S1.cell1
  have c2_ := S1.cell2
  have e0 : (((n : Nat) : Int) == 0) = false := by simp; omega
  have hl := h.sm.lim 0
  obtain ⟨b9, off9, hA9, hlt9, hc0⟩ := h1.get0 (by omega)
  cases hA9
  have HV := hide hv
  obtain ⟨r, hr⟩ : ∃ r, inr e = r := ⟨_, rfl⟩
  clear hv
  go_enter Tryd.func15, Tryd.ntmps15
  go_wp2_with fail
  refine (valid_calls _ _ _ _ _ h1 hn _ HV.out).mono ?_
  rintro e_ w' ⟨rfl, rfl⟩
  go_wp2_with fail
  refine bodyPost_ret (v := .bool false) (by simp [results, Tryd.results15, go_sem]) rfl ⟨rfl, F1⟩
theorem yvalid_b1 (s : Bool) (bb off n c : Nat) (xs : List Nat) (e : Int) (w : World) (h : Rd w (some ⟨bb, off, none⟩) n c xs) (hn : n ≤ 1048576) (hn0 : 0 < n) (hv : decide (tlen xs = n) = true) (h2 : lim xs 0 % 2 = 0) :
    Calls Tryd.prog 15 #[.agg #[.bool s, .slice (some ⟨bb, off, none⟩) n c, .int .i64 e]] w (Asks w (.bool false)) := by
  have h1 := h.alloc (EY s (some ⟨bb, off, none⟩) n c e)
  have F1 := (Below.refl w.heap.size w).alloc (Nat.le_refl _) (EY s (some ⟨bb, off, none⟩) n c e)
  have S1 : Sy (w.alloc (EY s (some ⟨bb, off, none⟩) n c e)) w.heap.size (.bool s) (.slice (some ⟨bb, off, none⟩) n c) (.int .i64 e) := Sy.new w _ _ _
  have c0_ := S1.cell0
  have c1_ := S1.cell1
  have c2_ := S1.cell2
  have e0 : (((n : Nat) : Int) == 0) = false := by simp; omega
  have hl := h.sm.lim 0
  obtain ⟨b9, off9, hA9, hlt9, hc0⟩ := h1.get0 (by omega)
  cases hA9
  have HV := hide hv
  obtain ⟨r, hr⟩ : ∃ r, inr e = r := ⟨_, rfl⟩
  have e2 : (((lim xs 0 : Nat) : Int) % 2 == 1) = false := by simp; omega
  clear hv h2
  go_enter Tryd.func15, Tryd.ntmps15
  go_wp2_with fail
  refine (valid_calls _ _ _ _ _ h1 hn _ HV.out).mono ?_
  rintro e_ w' ⟨rfl, rfl⟩
  go_wp2_with fail
  refine bodyPost_ret (v := .bool false) (by simp [results, Tryd.results15, go_sem]) rfl ⟨rfl, F1⟩
theorem yvalid_c (s : Bool) (bb off n c : Nat) (xs : List Nat) (e : Int) (w : World) (h : Rd w (some ⟨bb, off, none⟩) n c xs) (hn : n ≤ 1048576) (hn0 : 0 < n) (hv : decide (tlen xs = n) = true) (h2 : lim xs 0 % 2 = 1) :
    Calls Tryd.prog 15 #[.agg #[.bool s, .slice (some ⟨bb, off, none⟩) n c, .int .i64 e]] w (Asks w (.bool (inr e))) := by
  have h1 := h.alloc (EY s (some ⟨bb, off, none⟩) n c e)
  have F1 := (Below.refl w.heap.size w).alloc (Nat.le_refl _) (EY s (some ⟨bb, off, none⟩) n c e)
  have S1 : Sy (w.alloc (EY s (some ⟨bb, off, none⟩) n c e)) w.heap.size (.bool s) (.slice (some ⟨bb, off, none⟩) n c) (.int .i64 e) := Sy.new w _ _ _
  have c0_ := S1.cell0
  have c1_ := S1.cell1
  have c2_ := S1.cell2
  have e0 : (((n : Nat) : Int) == 0) = false := by simp; omega
  have hl := h.sm.lim 0
  obtain ⟨b9, off9, hA9, hlt9, hc0⟩ := h1.get0 (by omega)
  cases hA9
  have HV := hide hv
  obtain ⟨r, hr⟩ : ∃ r, inr e = r := ⟨_, rfl⟩
  have e2 : (((lim xs 0 : Nat) : Int) % 2 == 1) = true := by simp; omega
  clear hv h2
  rw [hr]
  go_enter Tryd.func15, Tryd.ntmps15
  go_wp2_with fail
  refine (valid_calls _ _ _ _ _ h1 hn _ HV.out).mono ?_
  rintro e_ w' ⟨rfl, rfl⟩
  go_wp2_with fail
  refine (inr_calls _ r _ hr).mono ?_
  rintro e_ w' ⟨rfl, rfl⟩
  go_wp2_with fail
  refine bodyPost_ret (v := .bool r) (by simp [results, Tryd.results15, go_sem]) rfl ⟨rfl, F1⟩
theorem yvalid_b (s : Bool) (A : Option Addr) (n c : Nat) (e : Int) (xs : List Nat) (w : World) (h : Rd w A n c xs) (hn : n ≤ 100) : Calls Tryd.prog 15 #[.agg #[.bool s, .slice A n c, .int .i64 e]] w (Asks w (.bool (vb s xs e))) := by
  have hlen := h.len
  by_cases h0 : n = 0
  · have e1 : vb s xs e = (!s && decide (e = 0)) := by unfold vb; rw [if_pos (by omega)]
    subst h0
    rw [e1]
    exact yvalid_nil s A c e _ w rfl
  · obtain ⟨bb, off, rfl, -, -⟩ := h.get (k := 0) (by omega)
    have e1 : vb s xs e = (decide (tlen xs = n) && decide (lim xs 0 % 2 = 1) && inr e) := by
      unfold vb inr
      rw [if_neg (by omega), hlen]
      simp only [Bool.and_assoc]
    rw [e1]
    rcases Bool.eq_false_or_eq_true (decide (tlen xs = n)) with hv | hv
    · rcases Nat.mod_two_eq_zero_or_one (lim xs 0) with h2 | h2
      · rw [hv, h2]
        exact yvalid_b1 s bb off n c xs e w h (by omega) (by omega) hv h2
      · rw [hv, h2]
        simpa using yvalid_c s bb off n c xs e w h (by omega) (by omega) hv h2
    · rw [hv]
      exact yvalid_a s bb off n c xs e w h (by omega) (by omega) hv
theorem GDy.more {w w' : World} {q : Rat} {e : Ending} (h : GDy w q e w') (o : Obj) : GDy w q e (w'.alloc o) := by
  obtain ⟨s, A, n, c, x, he, hc, hb⟩ := h
  exact ⟨s, A, n, c, x, he, hc.alloc o, hb.alloc hb.size o⟩
theorem neg_iv {q : Rat} (hi : Isd q) {z : Int} (hz : iv (!decide (q < 0)) (dg (dm q)) = z) : z.natAbs = dm q ∧ decide (z < 0) = decide (-q < 0) := by
  have h1 : z.natAbs = dm q := by rw [← hz, iv_abs, val_dg]
  refine ⟨h1, ?_⟩
  by_cases h0 : dm q = 0
  · have e1 := dm_eq_zero.1 h0
    have e2 : z = 0 := by omega
    rw [e1, e2]
    rfl
  · have h2 := (dvl_parts (!decide (q < 0)) (dm q) (de q) h0).2.2.2
    have h3 : dvl (!decide (q < 0)) (dm q) (de q) = -q := by
      have h4 : dvl (!decide (q < 0)) (dm q) (de q) = -dvl (decide (q < 0)) (dm q) (de q) := by
        unfold dvl
        rw [← Rat.neg_mul, ← Rat.intCast_neg]
        congr 2
        cases decide (q < 0) <;> simp
      rw [h4, dvl_of hi]
    rw [h3] at h2
    rw [h2, ← hz]
    unfold iv
    rw [val_dg]
    cases decide (q < 0) <;> simp <;> omega
theorem yneg_q (s : Bool) (A : Option Addr) (n c : Nat) (e : Int) (q : Rat) (w : World) (h : Cy w s A n c e q) (hn : n ≤ 3) (he : -200 ≤ e ∧ e ≤ 200) : Calls Tryd.prog 21 #[.agg #[.bool s, .slice A n c, .int .i64 e]] w (GDy w (-q)) := by
  obtain ⟨z, hz⟩ : ∃ z, iv (!decide (q < 0)) (dg (dm q)) = z := ⟨_, rfl⟩
  have hs := h.2.1
  have hz2 : iv (!s) (dg (dm q)) = z := by rw [hs]; exact hz
  have HP := hide (And.intro (neg_iv h.2.2.2 hz) (show e = de (-q) ∧ Isd (-q) from ⟨h.2.2.1.trans (de_neg q).symm, isd_neg h.2.2.2⟩))
  have k : Iz w (!s) A n c z := ⟨_, h.1, hz2⟩
  have hn2 : n ≤ 1048576 := by omega
  clear hz hz2 hs h he
  have k_1 := k.alloc (EY s A n c e)
  have bx_1 : Sy ((w).alloc (EY s A n c e)) (w.heap.size) (.bool s) (.slice A n c) (.int .i64 e) := by have h_ := Sy.new (w) (.bool s) (.slice A n c) (.int .i64 e); exact h_
  have F1 := (Below.refl w.heap.size w).alloc (Nat.le_refl _) (EY s A n c e)
  have k_2 := k_1.alloc EY0
  have bx_2 := bx_1.alloc EY0
  have br_2 : Sy (((w).alloc (EY s A n c e)).alloc EY0) (w.heap.size + 1) (.bool false) (.slice none 0 0) (.int .i64 0) := by have h_ := Sy.new ((w).alloc (EY s A n c e)) (.bool false) (.slice none 0 0) (.int .i64 0); simp only [World.size_alloc] at h_; exact h_
  have F2 := F1.alloc F1.size EY0
  go_enter Tryd.func21, Tryd.ntmps21
  have bx_u2 := bx_2.cell0
  have bx_v2 := bx_2.cell1
  have bx_w2 := bx_2.cell2
  have br_u2 := br_2.cell0
  have br_v2 := br_2.cell1
  have br_w2 := br_2.cell2
  go_wp2_with fail
  refine (make_int (!s) _ _ _ z _ k_2 hn2).mono ?_
  rintro e w3 ⟨s3, A3, n3, c3, rfl, y, b3⟩
  have k_3 := k_2.below b3
  have bx_3 := bx_2.below b3 bx_2.lt
  have br_3 := br_2.below b3 br_2.lt
  have F3 := below_then F2 (Nat.le_refl _) b3
  have bx_u3 := bx_3.cell0
  have bx_v3 := bx_3.cell1
  have bx_w3 := bx_3.cell2
  have br_u3 := br_3.cell0
  have br_v3 := br_3.cell1
  have br_w3 := br_3.cell2
  have br_f03 := br_3.frozen 0
  have br_f13 := br_3.frozen 1
  have br_f23 := br_3.frozen 2
  have lt_bi_bx := bx_3.lt
  have lt_bi_br := br_3.lt
  have k_4 := k_3.alloc (EI s3 A3 n3 c3)
  have y_4 := y.alloc (EI s3 A3 n3 c3)
  have bx_4 := bx_3.alloc (EI s3 A3 n3 c3)
  have br_4 := br_3.alloc (EI s3 A3 n3 c3)
  have bi_4 : Sb ((w3).alloc (EI s3 A3 n3 c3)) (w3.heap.size) (.bool s3) (.slice A3 n3 c3) := by have h_ := Sb.new (w3) (.bool s3) (.slice A3 n3 c3); exact h_
  have F4 := F3.alloc F3.size (EI s3 A3 n3 c3)
  have bx_u4 := bx_4.cell0
  have bx_v4 := bx_4.cell1
  have bx_w4 := bx_4.cell2
  have br_u4 := br_4.cell0
  have br_v4 := br_4.cell1
  have br_w4 := br_4.cell2
  have bi_u4 := bi_4.cell0
  have bi_v4 := bi_4.cell1
  have hc : Cy w3 s3 A3 n3 c3 e (-q) := ⟨by rw [dm_neg, ← HP.out.1.1]; exact y.1, by rw [← HP.out.1.2]; exact y.2, HP.out.2.1, HP.out.2.2⟩
  go_wp2_with fail
  refine bodyPost_ret (v := .agg #[.bool s3, .slice A3 n3 c3, .int .i64 e]) (by simp [results, Tryd.results21, go_sem, ((Sy.stor (u0 := .bool s3) (u1 := .slice A3 n3 c3) (u2 := .int .i64 e) br_3).alloc (EI s3 A3 n3 c3)).cell0, ((Sy.stor (u0 := .bool s3) (u1 := .slice A3 n3 c3) (u2 := .int .i64 e) br_3).alloc (EI s3 A3 n3 c3)).cell1, ((Sy.stor (u0 := .bool s3) (u1 := .slice A3 n3 c3) (u2 := .int .i64 e) br_3).alloc (EI s3 A3 n3 c3)).cell2]) rfl ((gd_end F3 (by omega) br_3 hc).more _)
end Go.Proofs.YthiapkalmmgliaaDoor
