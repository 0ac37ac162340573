/-
  Several texts in one, in build order: K13 K14 K15 K16 K17.
-/
import Derived.Test.YtnddhohjfjlaiaaGreatDoorK12

/-
  Rounding with a number of bits out of range; Down and Up hand on.
-/
namespace Go.Proofs.YtnddhohjfjlaiaaGreatDoor
open Go.RowKit
set_option linter.unusedVariables false
set_option linter.unusedSimpArgs false

theorem toward_bad (s : Bool) (A : Option Addr) (n c : Nat) (B : Option Addr) (m d : Nat) (k : Int) (up : Bool) (w : World) (hk : k < 1 ∨ 4096 < k) :
    Calls Tryz.prog 35 #[.agg #[.bool s, .slice A n c, .slice B m d], .int .i64 k, .bool up] w (GDE w 0 1) := by
  by_cases h1 : k < 1
  · have d1 : decide (k < 1) = true := by simp; omega
    clear hk h1
    have bx_1 : Sq ((w).alloc (EQ s A n c B m d)) (w.heap.size) (.bool s) (.slice A n c) (.slice B m d) := by have h_ := Sq.new (w) (.bool s) (.slice A n c) (.slice B m d); exact h_
    have F1 := (Below.refl w.heap.size w).alloc (Nat.le_refl _) (EQ s A n c B m d)
    have bx_2 := bx_1.alloc EY0
    have br_2 : Sy (((w).alloc (EQ s A n c B m d)).alloc EY0) (w.heap.size + 1) (.bool false) (.slice none 0 0) (.int .i64 0) := by have h_ := Sy.new ((w).alloc (EQ s A n c B m d)) (.bool false) (.slice none 0 0) (.int .i64 0); simp only [World.size_alloc] at h_; exact h_
    have F2 := F1.alloc F1.size EY0
    go_enter Tryz.func35, Tryz.ntmps35
    have bx_u2 := bx_2.cell0
    have bx_v2 := bx_2.cell1
    have bx_w2 := bx_2.cell2
    have br_u2 := br_2.cell0
    have br_v2 := br_2.cell1
    have br_w2 := br_2.cell2
    have br_f02 := br_2.frozen 0
    have br_f12 := br_2.frozen 1
    have br_f22 := br_2.frozen 2
    go_wp2_with fail
    refine bodyPost_ret (v := .tuple #[.agg #[.bool false, .slice none 0 0, .int .i64 0], .int .i64 1]) (by simp [results, Tryz.results35, go_sem, (br_2.set0 (.bool false)).cell0, ((br_2.set0 (.bool false)).set1 (.slice none 0 0)).cell1, (((br_2.set0 (.bool false)).set1 (.slice none 0 0)).set2 (.int .i64 0)).cell2]) rfl ⟨_, _, _, _, _, rfl, cy_zero _, F2⟩
  · have d1 : decide (k < 1) = false := by simp; omega
    have d2 : decide (4096 < k) = true := by simp; omega
    clear hk h1
    have bx_1 : Sq ((w).alloc (EQ s A n c B m d)) (w.heap.size) (.bool s) (.slice A n c) (.slice B m d) := by have h_ := Sq.new (w) (.bool s) (.slice A n c) (.slice B m d); exact h_
    have F1 := (Below.refl w.heap.size w).alloc (Nat.le_refl _) (EQ s A n c B m d)
    have bx_2 := bx_1.alloc EY0
    have br_2 : Sy (((w).alloc (EQ s A n c B m d)).alloc EY0) (w.heap.size + 1) (.bool false) (.slice none 0 0) (.int .i64 0) := by have h_ := Sy.new ((w).alloc (EQ s A n c B m d)) (.bool false) (.slice none 0 0) (.int .i64 0); simp only [World.size_alloc] at h_; exact h_
    have F2 := F1.alloc F1.size EY0
    go_enter Tryz.func35, Tryz.ntmps35
    have bx_u2 := bx_2.cell0
    have bx_v2 := bx_2.cell1
    have bx_w2 := bx_2.cell2
    have br_u2 := br_2.cell0
    have br_v2 := br_2.cell1
    have br_w2 := br_2.cell2
    have br_f02 := br_2.frozen 0
    have br_f12 := br_2.frozen 1
    have br_f22 := br_2.frozen 2
    go_wp2_with fail
    refine bodyPost_ret (v := .tuple #[.agg #[.bool false, .slice none 0 0, .int .i64 0], .int .i64 1]) (by simp [results, Tryz.results35, go_sem, (br_2.set0 (.bool false)).cell0, ((br_2.set0 (.bool false)).set1 (.slice none 0 0)).cell1, (((br_2.set0 (.bool false)).set1 (.slice none 0 0)).set2 (.int .i64 0)).cell2]) rfl ⟨_, _, _, _, _, rfl, cy_zero _, F2⟩
theorem rydown (s : Bool) (A : Option Addr) (n c : Nat) (B : Option Addr) (m d : Nat) (k : Int) (q : Rat) (r : Int) (w : World) (H : Hid (∀ W : World, Below w.heap.size w W → Calls Tryz.prog 35 #[.agg #[.bool s, .slice A n c, .slice B m d], .int .i64 k, .bool false] W (GDE W q r))) :
    Calls Tryz.prog 20 #[.agg #[.bool s, .slice A n c, .slice B m d], .int .i64 k] w (GDE w q r) := by
  have bx_1 : Sq ((w).alloc (EQ s A n c B m d)) (w.heap.size) (.bool s) (.slice A n c) (.slice B m d) := by have h_ := Sq.new (w) (.bool s) (.slice A n c) (.slice B m d); exact h_
  have F1 := (Below.refl w.heap.size w).alloc (Nat.le_refl _) (EQ s A n c B m d)
  have bx_2 := bx_1.alloc EY0
  have br_2 : Sy (((w).alloc (EQ s A n c B m d)).alloc EY0) (w.heap.size + 1) (.bool false) (.slice none 0 0) (.int .i64 0) := by have h_ := Sy.new ((w).alloc (EQ s A n c B m d)) (.bool false) (.slice none 0 0) (.int .i64 0); simp only [World.size_alloc] at h_; exact h_
  have F2 := F1.alloc F1.size EY0
  go_enter Tryz.func20, Tryz.ntmps20
  have bx_u2 := bx_2.cell0
  have bx_v2 := bx_2.cell1
  have bx_w2 := bx_2.cell2
  have br_u2 := br_2.cell0
  have br_v2 := br_2.cell1
  have br_w2 := br_2.cell2
  go_wp2_with fail
  refine (H.out _ F2).mono ?_
  rintro e w3 ⟨s3, A3, n3, c3, x3, rfl, y, b3⟩
  have bx_3 := bx_2.below b3 bx_2.lt
  have br_3 := br_2.below b3 br_2.lt
  have F3 := below_then F2 (Nat.le_refl _) b3
  have bx_u3 := bx_3.cell0
  have bx_v3 := bx_3.cell1
  have bx_w3 := bx_3.cell2
  have br_u3 := br_3.cell0
  have br_v3 := br_3.cell1
  have br_w3 := br_3.cell2
  have br_f03 := br_3.frozen 0
  have br_f13 := br_3.frozen 1
  have br_f23 := br_3.frozen 2
  go_wp2_with fail
  refine bodyPost_ret (v := .tuple #[.agg #[.bool s3, .slice A3 n3 c3, .int .i64 x3], .int .i64 r]) (by simp [results, Tryz.results20, go_sem, (br_3.set0 (.bool s3)).cell0, ((br_3.set0 (.bool s3)).set1 (.slice A3 n3 c3)).cell1, (((br_3.set0 (.bool s3)).set1 (.slice A3 n3 c3)).set2 (.int .i64 x3)).cell2]) rfl (gde_end r F3 (by omega) br_3 y)
theorem ryup (s : Bool) (A : Option Addr) (n c : Nat) (B : Option Addr) (m d : Nat) (k : Int) (q : Rat) (r : Int) (w : World) (H : Hid (∀ W : World, Below w.heap.size w W → Calls Tryz.prog 35 #[.agg #[.bool s, .slice A n c, .slice B m d], .int .i64 k, .bool true] W (GDE W q r))) :
    Calls Tryz.prog 21 #[.agg #[.bool s, .slice A n c, .slice B m d], .int .i64 k] w (GDE w q r) := by
  have bx_1 : Sq ((w).alloc (EQ s A n c B m d)) (w.heap.size) (.bool s) (.slice A n c) (.slice B m d) := by have h_ := Sq.new (w) (.bool s) (.slice A n c) (.slice B m d); exact h_
  have F1 := (Below.refl w.heap.size w).alloc (Nat.le_refl _) (EQ s A n c B m d)
  have bx_2 := bx_1.alloc EY0
  have br_2 : Sy (((w).alloc (EQ s A n c B m d)).alloc EY0) (w.heap.size + 1) (.bool false) (.slice none 0 0) (.int .i64 0) := by have h_ := Sy.new ((w).alloc (EQ s A n c B m d)) (.bool false) (.slice none 0 0) (.int .i64 0); simp only [World.size_alloc] at h_; exact h_
  have F2 := F1.alloc F1.size EY0
  go_enter Tryz.func21, Tryz.ntmps21
  have bx_u2 := bx_2.cell0
  have bx_v2 := bx_2.cell1
  have bx_w2 := bx_2.cell2
  have br_u2 := br_2.cell0
  have br_v2 := br_2.cell1
  have br_w2 := br_2.cell2
  go_wp2_with fail
  refine (H.out _ F2).mono ?_
  rintro e w3 ⟨s3, A3, n3, c3, x3, rfl, y, b3⟩
  have bx_3 := bx_2.below b3 bx_2.lt
  have br_3 := br_2.below b3 br_2.lt
  have F3 := below_then F2 (Nat.le_refl _) b3
  have bx_u3 := bx_3.cell0
  have bx_v3 := bx_3.cell1
  have bx_w3 := bx_3.cell2
  have br_u3 := br_3.cell0
  have br_v3 := br_3.cell1
  have br_w3 := br_3.cell2
  have br_f03 := br_3.frozen 0
  have br_f13 := br_3.frozen 1
  have br_f23 := br_3.frozen 2
  go_wp2_with fail
  refine bodyPost_ret (v := .tuple #[.agg #[.bool s3, .slice A3 n3 c3, .int .i64 x3], .int .i64 r]) (by simp [results, Tryz.results21, go_sem, (br_3.set0 (.bool s3)).cell0, ((br_3.set0 (.bool s3)).set1 (.slice A3 n3 c3)).cell1, (((br_3.set0 (.bool s3)).set1 (.slice A3 n3 c3)).set2 (.int .i64 x3)).cell2]) rfl (gde_end r F3 (by omega) br_3 y)
end Go.Proofs.YtnddhohjfjlaiaaGreatDoor

/-
  What Valid accepts is canonical.
-/
namespace Go.Proofs.YtnddhohjfjlaiaaGreatDoor
open Go.RowKit
set_option linter.unusedVariables false
set_option linter.unusedSimpArgs false

theorem vb_cy {w : World} {s : Bool} {A : Option Addr} {n c : Nat} {e : Int} {xs : List Nat} (h : Rd w A n c xs) (hv : vb s xs e = true) : Cy w s A n c e (dvl s (val xs) e) ∧ -1048576 ≤ e ∧ e ≤ 1048576 := by
  unfold vb at hv
  split at hv
  · rename_i h0
    simp at hv
    obtain ⟨rfl, rfl⟩ := hv
    obtain rfl : xs = [] := List.eq_nil_of_length_eq_zero h0
    refine ⟨⟨?_, ?_, ?_, ?_⟩, by omega, by omega⟩
    · rw [show val [] = 0 from rfl, dvl_zero, dmq_zero, dg_zero]; exact h
    · rw [show val [] = 0 from rfl, dvl_zero]; rfl
    · rw [show val [] = 0 from rfl, dvl_zero]; rfl
    · rw [show val [] = 0 from rfl, dvl_zero]; rfl
  · rename_i h0
    simp at hv
    obtain ⟨⟨⟨h1, h2⟩, h3⟩, h4⟩ := hv
    have hodd : val xs % 2 = 1 := by rw [← lim_mod2]; exact h2
    obtain ⟨p1, p2, p3, p4⟩ := dvl_parts s (val xs) e (by omega)
    have hdg : dg (val xs) = xs := by rw [dg_val h.sm, h1, List.take_length]
    refine ⟨⟨?_, ?_, ?_, p1⟩, h3, h4⟩
    · rw [p2, odp_odd hodd, hdg]; exact h
    · rw [p4]
    · rw [p3, tw_odd hodd]; omega
end Go.Proofs.YtnddhohjfjlaiaaGreatDoor

/-
  What is canonical Valid accepts; 0 rounded.
-/
namespace Go.Proofs.YtnddhohjfjlaiaaGreatDoor
open Go.RowKit
set_option linter.unusedVariables false
set_option linter.unusedSimpArgs false

theorem cy_vb {w : World} {s : Bool} {A : Option Addr} {n c : Nat} {e : Int} {q : Rat} (h : Cy w s A n c e q) (he : -1048576 ≤ e ∧ e ≤ 1048576) : vb s (dg (dm q)) e = true := by
  unfold vb
  by_cases h0 : q = 0
  · subst h0
    rw [dmq_zero, dg_zero, if_pos (by rfl), h.2.1, h.2.2.1]
    rfl
  · have h1 := dm_odd h0
    have h2 : (dg (dm q)).length ≠ 0 := fun hh => by
      have := dg_nil_iff.1 (List.eq_nil_of_length_eq_zero hh)
      omega
    rw [if_neg h2, tlen_dg, lim_mod2, val_dg]
    simp [h1, he.1, he.2]
theorem toward_zero (s : Bool) (A : Option Addr) (n c : Nat) (B : Option Addr) (m d : Nat) (k : Int) (up : Bool) (w : World) (h : Iq w s A n c B m d 0) (hn : n ≤ 16384) (hm : m ≤ 16384) (hk : 1 ≤ k ∧ k ≤ 4096) :
    Calls Tryz.prog 35 #[.agg #[.bool s, .slice A n c, .slice B m d], .int .i64 k, .bool up] w (GDE w 0 0) := by
  have d1 : decide (k < 1) = false := by simp; omega
  have d2 : decide (4096 < k) = false := by simp; omega
  clear hk
  have h_1 := h.alloc (EQ s A n c B m d)
  have bx_1 : Sq ((w).alloc (EQ s A n c B m d)) (w.heap.size) (.bool s) (.slice A n c) (.slice B m d) := by have h_ := Sq.new (w) (.bool s) (.slice A n c) (.slice B m d); exact h_
  have F1 := (Below.refl w.heap.size w).alloc (Nat.le_refl _) (EQ s A n c B m d)
  have h_2 := h_1.alloc EY0
  have bx_2 := bx_1.alloc EY0
  have br_2 : Sy (((w).alloc (EQ s A n c B m d)).alloc EY0) (w.heap.size + 1) (.bool false) (.slice none 0 0) (.int .i64 0) := by have h_ := Sy.new ((w).alloc (EQ s A n c B m d)) (.bool false) (.slice none 0 0) (.int .i64 0); simp only [World.size_alloc] at h_; exact h_
  have F2 := F1.alloc F1.size EY0
  go_enter Tryz.func35, Tryz.ntmps35
  have bx_u2 := bx_2.cell0
  have bx_v2 := bx_2.cell1
  have bx_w2 := bx_2.cell2
  have br_u2 := br_2.cell0
  have br_v2 := br_2.cell1
  have br_w2 := br_2.cell2
  go_wp2_with fail
  refine (rcanon_q _ _ _ _ _ _ _ _ _ h_2 hn hm).mono ?_
  rintro e w3 ⟨s3, A3, n3, c3, B3, m3, d3, rfl, x, b3⟩
  have h_3 := h_2.below b3
  have bx_3 := bx_2.below b3 bx_2.lt
  have br_3 := br_2.below b3 br_2.lt
  have F3 := below_then F2 (Nat.le_refl _) b3
  have bx_u3 := bx_3.cell0
  have bx_v3 := bx_3.cell1
  have bx_w3 := bx_3.cell2
  have br_u3 := br_3.cell0
  have br_v3 := br_3.cell1
  have br_w3 := br_3.cell2
  have hn0 : n3 = 0 := by have := x.1.len; exact this.symm
  subst hn0
  have bx_f03 := bx_3.frozen 0
  have bx_f13 := bx_3.frozen 1
  have bx_f23 := bx_3.frozen 2
  have br_4 := br_3.past (g' := w.heap.size) (u0 := .bool s3) (u1 := .slice A3 0 c3) (u2 := .slice B3 m3 d3) (by omega)
  have bx_4 := bx_3.stor (u0 := .bool s3) (u1 := .slice A3 0 c3) (u2 := .slice B3 m3 d3)
  have F4 := below_storQ (u0 := .bool s3) (u1 := .slice A3 0 c3) (u2 := .slice B3 m3 d3) F3 (show w.heap.size ≤ w.heap.size by omega)
  have bx_u4 := bx_4.cell0
  have bx_v4 := bx_4.cell1
  have bx_w4 := bx_4.cell2
  have br_u4 := br_4.cell0
  have br_v4 := br_4.cell1
  have br_w4 := br_4.cell2
  have br_f04 := br_4.frozen 0
  have br_f14 := br_4.frozen 1
  have br_f24 := br_4.frozen 2
  go_wp2_with fail
  refine bodyPost_ret (v := .tuple #[.agg #[.bool false, .slice none 0 0, .int .i64 0], .int .i64 0]) (by simp [results, Tryz.results35, go_sem, (br_4.set0 (.bool false)).cell0, ((br_4.set0 (.bool false)).set1 (.slice none 0 0)).cell1, (((br_4.set0 (.bool false)).set1 (.slice none 0 0)).set2 (.int .i64 0)).cell2]) rfl (gde_end 0 F4 (by omega) br_4 (cy_zero _))
end Go.Proofs.YtnddhohjfjlaiaaGreatDoor

/-
  toward.
-/
namespace Go.Proofs.YtnddhohjfjlaiaaGreatDoor
open Go.RowKit
set_option linter.unusedVariables false
set_option linter.unusedSimpArgs false

theorem two_lt_pw {T K : Nat} (h : T < 32 * K) : 2 ^ T < pw K := by rw [pw_pow]; exact Nat.pow_lt_pow_right (by decide) h
theorem pw_le_two {T K : Nat} (h : 32 * K ≤ T) : pw K ≤ 2 ^ T := by rw [pw_pow]; exact Nat.pow_le_pow_right (by decide) h
theorem bl_len {X K : Nat} (h : bl X ≤ 32 * K) : (dg X).length ≤ K := dg_le (by rw [pw_pow]; exact bl_iff.1 h)
theorem rcan_w (s s' : Bool) (hs : s' = s) (A : Option Addr) (n c : Nat) (X : Nat) (e : Int) (q : Rat) (w : World) (h : Rd w A n c (dg X)) (hn : n ≤ 1000000) (hq : dvl s X e = q) (he : -1000000000 ≤ e ∧ e ≤ 1000000000) (hr : -1048576 ≤ de q ∧ de q ≤ 1048576) :
    Calls Tryz.prog 59 #[.bool s', .slice A n c, .int .i64 e] w (GDB w q true) := by
  subst hs
  exact rcan_q _ _ _ _ _ _ _ _ h hn (by rw [val_dg]; exact hq) he hr
set_option maxHeartbeats 4000000 in
theorem toward_q (s : Bool) (A : Option Addr) (n c : Nat) (B : Option Addr) (m d : Nat) (k : Nat) (up : Bool) (q y : Rat) (w : World) (h : Iq w s A n c B m d q) (hn : n ≤ 3000) (hm : m ≤ 3000) (h0 : q ≠ 0) (hk : 1 ≤ k ∧ k ≤ 4096)
    (hy : dvl (decide (q.num < 0)) (if (!up == decide (q.num < 0)) = true then rhi q.num.natAbs q.den k else rlo q.num.natAbs q.den k) (rex q.num.natAbs q.den k) = y) (hr : -1048576 ≤ de y ∧ de y ≤ 1048576) (hx : -1000000 ≤ rex q.num.natAbs q.den k ∧ rex q.num.natAbs q.den k ≤ 1000000) (hz : bl (if (!up == decide (q.num < 0)) = true then rhi q.num.natAbs q.den k else rlo q.num.natAbs q.den k) ≤ 320000) :
    Calls Tryz.prog 35 #[.agg #[.bool s, .slice A n c, .slice B m d], .int .i64 (k : Int), .bool up] w (GDE w y 0) := by
  have hs := h.size hn hm (by omega)
  obtain ⟨N, hN⟩ : ∃ N, q.num.natAbs = N := ⟨_, rfl⟩
  obtain ⟨D, hD⟩ : ∃ D, q.den = D := ⟨_, rfl⟩
  obtain ⟨T, hT⟩ : ∃ T : Nat, T = 1000000 := ⟨_, rfl⟩
  obtain ⟨P, hP⟩ : ∃ P : Nat, 2 ^ T = P := ⟨_, rfl⟩
  obtain ⟨LP, hLP⟩ : ∃ L, (dg P).length = L := ⟨_, rfl⟩
  obtain ⟨LD, hLD⟩ : ∃ L, (dg D).length = L := ⟨_, rfl⟩
  obtain ⟨L1, hL1⟩ : ∃ L, (dg (D * P)).length = L := ⟨_, rfl⟩
  obtain ⟨L2, hL2⟩ : ∃ L, (dg (N * P)).length = L := ⟨_, rfl⟩
  have hNp : N < pw 3000 := by rw [← hN]; exact hs.1
  have hDp : D < pw 3000 := by rw [← hD]; exact hs.2
  have hN0 : 0 < N := by have : q.num ≠ 0 := fun hh => h0 (Rat.num_eq_zero.1 hh); omega
  have hD0 : 0 < D := by rw [← hD]; exact q.den_pos
  have hlt : T < 32 * 31251 := by omega
  have hlt2 : 32 * 3000 ≤ T := by omega
  have h9 : 2 ^ T < pw 31251 := two_lt_pw hlt
  have bP : LP ≤ 31251 := by rw [← hLP, ← hP]; exact dg_le h9
  have bD : LD ≤ 3000 := by rw [← hLD]; exact dg_le hDp
  have hPp : P < pw 31251 := lt_of_len (by rw [hLP]; exact bP)
  have b1 : L1 ≤ 40000 := by rw [← hL1]; have := dg_le (mul_pw hDp hPp); omega
  have b2 : L2 ≤ 40000 := by rw [← hL2]; have := dg_le (mul_pw hNp hPp); omega
  have hPD : pw 3000 ≤ P := by rw [← hP]; exact pw_le_two hlt2
  have g1 : N < D * P := Nat.lt_of_lt_of_le hNp (Nat.le_trans hPD (Nat.le_mul_of_pos_left _ hD0))
  have g2 : D < N * P := Nat.lt_of_lt_of_le hDp (Nat.le_trans hPD (Nat.le_mul_of_pos_left _ hN0))
  have HG1 := hide (sg_lt g1)
  have HG2 := hide (sg_gt g2)
  have HX1 := hide (show (dg q.den).length = LD by rw [hD]; exact hLD)
  have HX2 := hide hL1
  have HX3 := hide hL2
  have HX4 := hide hLP
  have HT := hide (show (1000000 : Int) = (T : Int) ∧ T ≤ 1048576 by omega)
  have HP := hide hP
  have HS := hide (show q.num.natAbs < pw 3000 ∧ q.den < pw 3000 from hs)
  have HN := hide (And.intro hN (And.intro hD (And.intro hN0 hD0)))
  rw [hN, hD] at hy hx hz
  have HY := hide (And.intro hy (And.intro hr (And.intro hx hz)))
  have HK := hide hk
  have d1 : decide ((k : Int) < 1) = false := by simp; omega
  have d2 : decide ((4096 : Int) < (k : Int)) = false := by simp; omega
  have HH := hide (show n ≤ 16384 ∧ m ≤ 16384 by omega)
  clear hlt hlt2 h9 hT hP hLP hLD hL1 hL2 hNp hDp hN0 hD0 hPp hPD g1 g2 hs h0 hy hr hx hz hk hn hm hN hD
  have h_1 := h.alloc (EQ s A n c B m d)
  have bx_1 : Sq ((w).alloc (EQ s A n c B m d)) (w.heap.size) (.bool s) (.slice A n c) (.slice B m d) := by have h_ := Sq.new (w) (.bool s) (.slice A n c) (.slice B m d); exact h_
  have F1 := (Below.refl w.heap.size w).alloc (Nat.le_refl _) (EQ s A n c B m d)
  have h_2 := h_1.alloc EY0
  have bx_2 := bx_1.alloc EY0
  have br_2 : Sy (((w).alloc (EQ s A n c B m d)).alloc EY0) (w.heap.size + 1) (.bool false) (.slice none 0 0) (.int .i64 0) := by have h_ := Sy.new ((w).alloc (EQ s A n c B m d)) (.bool false) (.slice none 0 0) (.int .i64 0); simp only [World.size_alloc] at h_; exact h_
  have F2 := F1.alloc F1.size EY0
  go_enter Tryz.func35, Tryz.ntmps35
  have bx_u2 := bx_2.cell0
  have bx_v2 := bx_2.cell1
  have bx_w2 := bx_2.cell2
  have br_u2 := br_2.cell0
  have br_v2 := br_2.cell1
  have br_w2 := br_2.cell2
  go_wp2_with fail
  refine (rcanon_q _ _ _ _ _ _ _ _ _ h_2 HH.out.1 HH.out.2).mono ?_
  rintro e w3 ⟨s3, A3, n3, c3, B3, m3, d3, rfl, x, b3⟩
  have h_3 := h_2.below b3
  have bx_3 := bx_2.below b3 bx_2.lt
  have br_3 := br_2.below b3 br_2.lt
  have F3 := below_then F2 (Nat.le_refl _) b3
  have bx_u3 := bx_3.cell0
  have bx_v3 := bx_3.cell1
  have bx_w3 := bx_3.cell2
  have br_u3 := br_3.cell0
  have br_v3 := br_3.cell1
  have br_w3 := br_3.cell2
  have hn1 : n3 ≤ 3000 := x.ln HS.out.1
  have hm1 : m3 ≤ 3000 := x.ld HS.out.2
  have hs1 : s3 = decide (q.num < 0) := x.2.2
  have hl1 := x.1.len
  have hn0 : n3 ≠ 0 := fun hh => by rw [hh] at hl1; have := dg_nil_iff.1 (List.eq_nil_of_length_eq_zero hl1); have h9 := HN.out.1; have := HN.out.2.2.1; omega
  have e0 : (((n3 : Nat) : Int) == 0) = false := by simp [hn0]
  clear hl1
  subst hs1
  have bx_f03 := bx_3.frozen 0
  have bx_f13 := bx_3.frozen 1
  have bx_f23 := bx_3.frozen 2
  have x_4 := x.storQ bx_3 (.bool (decide (q.num < 0))) (.slice A3 n3 c3) (.slice B3 m3 d3)
  have br_4 := br_3.past (g' := w.heap.size) (u0 := .bool (decide (q.num < 0))) (u1 := .slice A3 n3 c3) (u2 := .slice B3 m3 d3) (by omega)
  have bx_4 := bx_3.stor (u0 := .bool (decide (q.num < 0))) (u1 := .slice A3 n3 c3) (u2 := .slice B3 m3 d3)
  have F4 := below_storQ (u0 := .bool (decide (q.num < 0))) (u1 := .slice A3 n3 c3) (u2 := .slice B3 m3 d3) F3 (show w.heap.size ≤ w.heap.size by omega)
  have bx_u4 := bx_4.cell0
  have bx_v4 := bx_4.cell1
  have bx_w4 := bx_4.cell2
  have br_u4 := br_4.cell0
  have br_v4 := br_4.cell1
  have br_w4 := br_4.cell2
  go_wp2_with fail
  refine (rden_q _ _ _ _ _ _ _ q LD _ HX1.out x_4.iq (by omega) (by omega) 3000 (by omega) HS.out.2).mono ?_
  rintro e w5 ⟨A5, c5, rfl, den, b5⟩
  have x_5 := x_4.below b5
  have bx_5 := bx_4.below b5 bx_4.lt
  have br_5 := br_4.below b5 br_4.lt
  have F5 := below_then F4 (Nat.le_refl _) b5
  have bx_u5 := bx_5.cell0
  have bx_v5 := bx_5.cell1
  have bx_w5 := bx_5.cell2
  have br_u5 := br_5.cell0
  have br_v5 := br_5.cell1
  have br_w5 := br_5.cell2
  have x_6 := x_5.alloc (.cells #[.int .u32 1] 57)
  have den_6 := den.alloc (.cells #[.int .u32 1] 57)
  have bx_6 := bx_5.alloc (.cells #[.int .u32 1] 57)
  have br_6 := br_5.alloc (.cells #[.int .u32 1] 57)
  have F6 := F5.alloc F5.size (.cells #[.int .u32 1] 57)
  have one := rd_one (w5) 1 (by omega)
  have bx_u6 := bx_6.cell0
  have bx_v6 := bx_6.cell1
  have bx_w6 := bx_6.cell2
  have br_u6 := br_6.cell0
  have br_v6 := br_6.cell1
  have br_w6 := br_6.cell2
  go_wp2_with fail
  refine (rShl_L _ _ _ _ _ T _ LP _ HT.out.1 (by simp [val, HP.out]) HX4.out one (by omega) HT.out.2).mono ?_
  rintro e w7 ⟨A7, c7, rfl, lim_, b7⟩
  have x_7 := x_6.below b7
  have den_7 := den_6.below b7
  have one_7 := one.below b7
  have bx_7 := bx_6.below b7 bx_6.lt
  have br_7 := br_6.below b7 br_6.lt
  have F7 := below_then F6 (Nat.le_refl _) b7
  have bx_u7 := bx_7.cell0
  have bx_v7 := bx_7.cell1
  have bx_w7 := bx_7.cell2
  have br_u7 := br_7.cell0
  have br_v7 := br_7.cell1
  have br_w7 := br_7.cell2
  have num_7 := x_7.rn
  rw [HN.out.1] at num_7
  rw [HN.out.2.1] at den_7
  go_wp2_with fail
  have den_8 := den_7.drew
  have lim__8 := lim_.drew
  have num_8 := num_7.drew
  have bx_8 := bx_7.drew
  have br_8 := br_7.drew
  have F8 := F7.drew
  go_region_held3 (fun w' => w'.cell? ⟨w.heap.size, 0, none⟩ = some (.bool (decide (q.num < 0))) ∧ w'.cell? ⟨w.heap.size, 1, none⟩ = some (.slice A3 n3 c3) ∧ w'.cell? ⟨w.heap.size, 2, none⟩ = some (.slice B3 m3 d3) ∧ w'.cell? ⟨w.heap.size + 1, 0, none⟩ = some (.bool false) ∧ w'.cell? ⟨w.heap.size + 1, 1, none⟩ = some (.slice none 0 0) ∧ w'.cell? ⟨w.heap.size + 1, 2, none⟩ = some (.int .i64 0))
    (first
      | with_reducible exact ⟨bx_10.cell0, bx_10.cell1, bx_10.cell2, br_10.cell0, br_10.cell1, br_10.cell2⟩
      | with_reducible exact ⟨bx_9.cell0, bx_9.cell1, bx_9.cell2, br_9.cell0, br_9.cell1, br_9.cell2⟩
      | with_reducible exact ⟨bx_8.cell0, bx_8.cell1, bx_8.cell2, br_8.cell0, br_8.cell1, br_8.cell2⟩
      | fail)
    (first
      | (go_at_call 57; (with_reducible refine (rmul_L _ _ _ _ _ _ _ _ _ D P L1 (val_dg _) (val_dg _) HX2.out den_8 lim__8 (by omega) (by omega)).mono ?_); rintro e w9 ⟨A9, c9, rfl, p1, b9⟩; have den_9 := den_8.below b9; have lim__9 := lim__8.below b9; have num_9 := num_8.below b9; have bx_9 := bx_8.below b9 bx_8.lt; have br_9 := br_8.below b9 br_8.lt; have F9 := below_then F8 (Nat.le_refl _) b9)
      | (go_at_call 56; (with_reducible refine (rcmp_at _ _ _ _ _ _ _ _ _ (-1) (by rw [val_dg, val_dg]; exact HG1.out) num_9 p1 (by omega) (by omega)).mono ?_); rintro e w' ⟨rfl, rfl⟩)
      | (go_at_call 57; (with_reducible refine (rmul_L _ _ _ _ _ _ _ _ _ N P L2 (val_dg _) (val_dg _) HX3.out num_9 lim__9 (by omega) (by omega)).mono ?_); rintro e w10 ⟨A10, c10, rfl, p2, b10⟩; have den_10 := den_9.below b10; have lim__10 := lim__9.below b10; have num_10 := num_9.below b10; have p1_10 := p1.below b10; have bx_10 := bx_9.below b10 bx_9.lt; have br_10 := br_9.below b10 br_9.lt; have F10 := below_then F9 (Nat.le_refl _) b10)
      | (go_at_call 56; (with_reducible refine (rcmp_at _ _ _ _ _ _ _ _ _ 1 (by rw [val_dg, val_dg]; exact HG2.out) p2 den_10 (by omega) (by omega)).mono ?_); rintro e w' ⟨rfl, rfl⟩)
      | fail)
  have bx_u10 := bx_10.cell0
  have bx_v10 := bx_10.cell1
  have bx_w10 := bx_10.cell2
  have br_u10 := br_10.cell0
  have br_v10 := br_10.cell1
  have br_w10 := br_10.cell2
  go_wp2_with fail
  refine (round_q _ _ _ _ _ _ N D k _ _ num_10 den_10 HN.out.2.2.1 HN.out.2.2.2 HK.out.1 HK.out.2 (by omega) (by omega)).mono ?_
  rintro e w11 ⟨A11, n11, c11, rfl, M, b11⟩
  have den_11 := den_10.below b11
  have lim__11 := lim__10.below b11
  have num_11 := num_10.below b11
  have p1_11 := p1_10.below b11
  have p2_11 := p2.below b11
  have bx_11 := bx_10.below b11 bx_10.lt
  have br_11 := br_10.below b11 br_10.lt
  have F11 := below_then F10 (Nat.le_refl _) b11
  have bx_u11 := bx_11.cell0
  have bx_v11 := bx_11.cell1
  have bx_w11 := bx_11.cell2
  have br_u11 := br_11.cell0
  have br_v11 := br_11.cell1
  have br_w11 := br_11.cell2
  have hM : n11 ≤ 10000 := by have h1 := M.len; rw [← h1]; exact bl_len (Nat.le_trans HY.out.2.2.2 (by omega))
  go_wp2_with fail
  refine (rcan_w (decide (q.num < 0)) _ rfl _ _ _ _ (rex N D k) y _ M (by omega) HY.out.1 (by have := HY.out.2.2.1; omega) HY.out.2.1).mono ?_
  rintro e w12 ⟨s12, A12, n12, c12, x12, rfl, y_, b12⟩
  have M_12 := M.below b12
  have bx_12 := bx_11.below b12 bx_11.lt
  have br_12 := br_11.below b12 br_11.lt
  have F12 := below_then F11 (Nat.le_refl _) b12
  have bx_u12 := bx_12.cell0
  have bx_v12 := bx_12.cell1
  have bx_w12 := bx_12.cell2
  have br_u12 := br_12.cell0
  have br_v12 := br_12.cell1
  have br_w12 := br_12.cell2
  have M_13 := M_12.alloc (EY s12 A12 n12 c12 x12)
  have y__13 := y_.alloc (EY s12 A12 n12 c12 x12)
  have bx_13 := bx_12.alloc (EY s12 A12 n12 c12 x12)
  have br_13 := br_12.alloc (EY s12 A12 n12 c12 x12)
  have F13 := F12.alloc F12.size (EY s12 A12 n12 c12 x12)
  have bx_u13 := bx_13.cell0
  have bx_v13 := bx_13.cell1
  have bx_w13 := bx_13.cell2
  have br_u13 := br_13.cell0
  have br_v13 := br_13.cell1
  have br_w13 := br_13.cell2
  have br_f013 := br_13.frozen 0
  have br_f113 := br_13.frozen 1
  have br_f213 := br_13.frozen 2
  go_wp2_with fail
  refine bodyPost_ret (v := .tuple #[.agg #[.bool s12, .slice A12 n12 c12, .int .i64 x12], .int .i64 0]) (by simp [results, Tryz.results35, go_sem, (br_13.set0 (.bool s12)).cell0, ((br_13.set0 (.bool s12)).set1 (.slice A12 n12 c12)).cell1, (((br_13.set0 (.bool s12)).set1 (.slice A12 n12 c12)).set2 (.int .i64 x12)).cell2]) rfl (gde_end 0 F13 (by omega) br_13 y__13)
end Go.Proofs.YtnddhohjfjlaiaaGreatDoor

/-
  A number rounded down or up to k bits, and its size.
-/
namespace Go.Proofs.YtnddhohjfjlaiaaGreatDoor
open Go.RowKit
set_option linter.unusedVariables false
set_option linter.unusedSimpArgs false

/-- The factor of the rounded number. -/
def tqm (q : Rat) (k : Nat) (up : Bool) : Nat := if (!up == decide (q.num < 0)) = true then rhi q.num.natAbs q.den k else rlo q.num.natAbs q.den k
/-- q rounded to k bits, down or up. -/
def tq (q : Rat) (k : Nat) (up : Bool) : Rat := if q = 0 then 0 else dvl (decide (q.num < 0)) (tqm q k up) (rex q.num.natAbs q.den k)
theorem tq_zero (k : Nat) (up : Bool) : tq 0 k up = 0 := if_pos rfl
theorem rat_abs {q : Rat} (h : 0 ≤ q.num) : ((q.num.natAbs : Nat) : Rat) / (q.den : Rat) = q := by
  have e : ((q.num.natAbs : Nat) : Rat) = (q.num : Rat) := by rw [← Rat.intCast_natCast, Int.natAbs_of_nonneg h]
  rw [e]
  rw [← Rat.mkRat_eq_div]
  exact Rat.mkRat_self q
theorem rat_neg_abs {q : Rat} (h : q.num < 0) : -(((q.num.natAbs : Nat) : Rat) / (q.den : Rat)) = q := by
  have e : ((q.num.natAbs : Nat) : Rat) = -(q.num : Rat) := by
    rw [← Rat.intCast_natCast, ← Rat.intCast_neg]
    congr 1
    omega
  rw [e, Rat.div_def, Rat.neg_mul, Rat.neg_neg, ← Rat.div_def]
  rw [← Rat.mkRat_eq_div]
  exact Rat.mkRat_self q
theorem dvl_t (m : Nat) (e : Int) : dvl true m e = -(((m : Int) : Rat) * p2 e) := by
  unfold dvl
  rw [if_pos rfl, Rat.intCast_neg, Rat.neg_mul]
theorem dvl_f (m : Nat) (e : Int) : dvl false m e = ((m : Int) : Rat) * p2 e := by
  unfold dvl
  rw [if_neg (by decide)]
theorem num_posq {q : Rat} (h0 : q ≠ 0) : 0 < q.num.natAbs := by
  have : q.num ≠ 0 := fun h => h0 (Rat.num_eq_zero.1 h)
  omega
theorem tq_dn (q : Rat) {k : Nat} (hk : 1 ≤ k) : IsDn k q (tq q k false) := by
  unfold tq
  split
  · rename_i h; rw [h]; exact dn_zero k
  · rename_i h0
    by_cases hn : q.num < 0
    · have h := (rhi_up (k := k) hk (num_posq h0) q.den_pos).neg
      rw [rat_neg_abs hn] at h
      rw [decide_eq_true hn, dvl_t]
      have e : tqm q k false = rhi q.num.natAbs q.den k := by unfold tqm; rw [decide_eq_true hn]; rfl
      rw [e]
      exact h
    · have h := rlo_dn (k := k) hk (num_posq h0) q.den_pos
      rw [rat_abs (by omega)] at h
      rw [decide_eq_false hn, dvl_f]
      have e : tqm q k false = rlo q.num.natAbs q.den k := by unfold tqm; rw [decide_eq_false hn]; rfl
      rw [e]
      exact h
theorem tq_up (q : Rat) {k : Nat} (hk : 1 ≤ k) : IsUp k q (tq q k true) := by
  unfold tq
  split
  · rename_i h; rw [h]; exact up_zero k
  · rename_i h0
    by_cases hn : q.num < 0
    · have h := (rlo_dn (k := k) hk (num_posq h0) q.den_pos).neg
      rw [rat_neg_abs hn] at h
      rw [decide_eq_true hn, dvl_t]
      have e : tqm q k true = rlo q.num.natAbs q.den k := by unfold tqm; rw [decide_eq_true hn]; rfl
      rw [e]
      exact h
    · have h := rhi_up (k := k) hk (num_posq h0) q.den_pos
      rw [rat_abs (by omega)] at h
      rw [decide_eq_false hn, dvl_f]
      have e : tqm q k true = rhi q.num.natAbs q.den k := by unfold tqm; rw [decide_eq_false hn]; rfl
      rw [e]
      exact h
theorem tqm_bd {q : Rat} {k : Nat} (up : Bool) (hk : 1 ≤ k) (h0 : q ≠ 0) : tqm q k up ≠ 0 ∧ tqm q k up ≤ 2 ^ k := by
  have hb := rex_bd (k := k) hk (num_posq h0) q.den_pos
  have hp : 0 < 2 ^ (k - 1) := Nat.two_pow_pos _
  have h1 : rlo q.num.natAbs q.den k ≠ 0 ∧ rlo q.num.natAbs q.den k ≤ 2 ^ k := by unfold rlo; omega
  have h2 : rhi q.num.natAbs q.den k ≠ 0 ∧ rhi q.num.natAbs q.den k ≤ 2 ^ k := by unfold rhi; split <;> omega
  unfold tqm
  split
  · exact h2
  · exact h1
theorem bl_pw {X K : Nat} (h : X < pw K) : bl X ≤ 32 * K := bl_iff.2 (by rw [← pw_pow]; exact h)
theorem rex_size {q : Rat} {K k : Nat} (hs : Qs K q) : -(32 * K + k : Int) ≤ rex q.num.natAbs q.den k ∧ rex q.num.natAbs q.den k ≤ 32 * K + 1 := by
  have h1 := bl_pw hs.1
  have h2 := bl_pw hs.2
  unfold rex ex0
  split <;> omega
theorem tq_de {q : Rat} {K k : Nat} (up : Bool) (hk : 1 ≤ k) (hs : Qs K q) : -(32 * K + k : Int) ≤ de (tq q k up) ∧ de (tq q k up) ≤ 32 * K + k + 2 := by
  unfold tq
  split
  · rw [de_zero]; omega
  · rename_i h0
    obtain ⟨h1, h2⟩ := tqm_bd up hk h0
    rw [(dvl_parts _ _ _ h1).2.2.1]
    have h3 := rex_size (k := k) hs
    have h4 : tw (tqm q k up) < k + 1 := tw_lt (Nat.lt_of_le_of_lt h2 (Nat.pow_lt_pow_right (by decide) (Nat.lt_succ_self k))) h1
    omega
theorem tq_dm {q : Rat} {k : Nat} (up : Bool) (hk : 1 ≤ k) : bl (dm (tq q k up)) ≤ k := by
  cases up
  · exact (dk_iff.1 (tq_dn q hk).1).2
  · exact (dk_iff.1 (tq_up q hk).1).2
theorem ytow_q (s : Bool) (A : Option Addr) (n c : Nat) (B : Option Addr) (m d : Nat) (k K : Nat) (P : Int) (up : Bool) (q : Rat) (w : World) (hP : P = (k : Int)) (h : Iq w s A n c B m d q) (hn : n ≤ 3000) (hm : m ≤ 3000) (hs : Qs K q) (hK : K ≤ 1000) (hk : 1 ≤ k ∧ k ≤ 4096) :
    Calls Tryz.prog 35 #[.agg #[.bool s, .slice A n c, .slice B m d], .int .i64 P, .bool up] w (GDE w (tq q k up) 0) := by
  subst hP
  by_cases h0 : q = 0
  · subst h0
    rw [tq_zero]
    exact toward_zero s A n c B m d k up w h (by omega) (by omega) (by omega)
  · have h1 := rex_size (k := k) hs
    have h2 := tq_de (k := k) up hk.1 hs
    have h3 := tqm_bd up hk.1 h0
    refine toward_q s A n c B m d k up q (tq q k up) w h hn hm h0 hk ?_ (by omega) (by omega) ?_
    · unfold tq
      rw [if_neg h0]
      rfl
    · show bl (tqm q k up) ≤ 320000
      have : bl (tqm q k up) ≤ k + 1 := bl_iff.2 (Nat.lt_of_le_of_lt h3.2 (Nat.pow_lt_pow_right (by decide) (Nat.lt_succ_self k)))
      omega
theorem rydown_q (s : Bool) (A : Option Addr) (n c : Nat) (B : Option Addr) (m d : Nat) (k K : Nat) (P : Int) (q : Rat) (w : World) (hP : P = (k : Int)) (h : Iq w s A n c B m d q) (hn : n ≤ 3000) (hm : m ≤ 3000) (hs : Qs K q) (hK : K ≤ 1000) (hk : 1 ≤ k ∧ k ≤ 4096) :
    Calls Tryz.prog 20 #[.agg #[.bool s, .slice A n c, .slice B m d], .int .i64 P] w (GDE w (tq q k false) 0) :=
  rydown s A n c B m d P _ 0 w (hide fun W hb => ytow_q s A n c B m d k K P false q W hP (h.below hb) hn hm hs hK hk)
theorem ryup_q (s : Bool) (A : Option Addr) (n c : Nat) (B : Option Addr) (m d : Nat) (k K : Nat) (P : Int) (q : Rat) (w : World) (hP : P = (k : Int)) (h : Iq w s A n c B m d q) (hn : n ≤ 3000) (hm : m ≤ 3000) (hs : Qs K q) (hK : K ≤ 1000) (hk : 1 ≤ k ∧ k ≤ 4096) :
    Calls Tryz.prog 21 #[.agg #[.bool s, .slice A n c, .slice B m d], .int .i64 P] w (GDE w (tq q k true) 0) :=
  ryup s A n c B m d P _ 0 w (hide fun W hb => ytow_q s A n c B m d k K P true q W hP (h.below hb) hn hm hs hK hk)
theorem rydown_b (s : Bool) (A : Option Addr) (n c : Nat) (B : Option Addr) (m d : Nat) (P : Int) (w : World) (hP : P < 1 ∨ 4096 < P) :
    Calls Tryz.prog 20 #[.agg #[.bool s, .slice A n c, .slice B m d], .int .i64 P] w (GDE w 0 1) :=
  rydown s A n c B m d P _ 1 w (hide fun W hb => toward_bad s A n c B m d P false W hP)
theorem ryup_b (s : Bool) (A : Option Addr) (n c : Nat) (B : Option Addr) (m d : Nat) (P : Int) (w : World) (hP : P < 1 ∨ 4096 < P) :
    Calls Tryz.prog 21 #[.agg #[.bool s, .slice A n c, .slice B m d], .int .i64 P] w (GDE w 0 1) :=
  ryup s A n c B m d P _ 1 w (hide fun W hb => toward_bad s A n c B m d P true W hP)
theorem tq_neg (q : Rat) {k : Nat} (hk : 1 ≤ k) : tq (-q) k false = -tq q k true := (tq_dn (-q) hk).uniq (tq_up q hk).neg
end Go.Proofs.YtnddhohjfjlaiaaGreatDoor
