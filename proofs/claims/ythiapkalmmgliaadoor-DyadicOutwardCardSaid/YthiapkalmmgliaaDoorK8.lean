/-
  The rational number of a dyadic number.
-/
import Derived.Test.YthiapkalmmgliaaDoorK7
namespace Go.Proofs.YthiapkalmmgliaaDoor
open Go.RowKit
set_option linter.unusedVariables false
set_option linter.unusedSimpArgs false

theorem rShl_L (A : Option Addr) (n c : Nat) (xs : List Nat) (w : World) (k X L : Nat) (z : Int) (hz : z = (k : Int)) (hX : val xs * 2 ^ k = X) (hL : (dg X).length = L) (h : Rd w A n c xs) (hn : n ≤ 1048576) (hk : k ≤ 1048576) :
    Calls Tryd.prog 32 #[.slice A n c, .int .i64 z] w fun e w' => ∃ A1 c1, e = .returned (.tuple #[.slice A1 L c1, .int .i64 0]) ∧ Rd w' A1 L c1 (dg X) ∧ Below w.heap.size w w' := by
  subst hX hL hz
  exact rShl_ok A n c xs w k h hn hk
theorem iq_frac (w : World) (s : Bool) (A B : Option Addr) (n c m d : Nat) (xs : List Nat) (k : Nat) (h : Rd w A n c xs) (h2 : Rd w B m d (dg (1 * 2 ^ k))) : Iq w s A n c B m d (dvl s (val xs) (-(k : Int))) := by
  refine ⟨xs, _, h, h2, ?_⟩
  have h0 := Nat.two_pow_pos k
  have e1 : rden (dg (1 * 2 ^ k)) = 2 ^ k := by
    unfold rden
    rw [val_dg, Nat.one_mul, if_neg (by omega)]
  unfold rv dvl
  rw [e1, int_p2]
  rfl
theorem Iq.to {w : World} {s : Bool} {A B : Option Addr} {n c m d : Nat} {p q : Rat} (h : Iq w s A n c B m d q) (e : q = p) : Iq w s A n c B m d p := e ▸ h
theorem iq_whole (w : World) (s : Bool) (A : Option Addr) (n c : Nat) (X k : Nat) (h : Rd w A n c (dg (X * 2 ^ k))) : Iq w s A n c none 0 0 (dvl s X (k : Int)) := by
  refine ⟨_, [], h, Rd.empty _ _ _, ?_⟩
  have e1 : rden [] = 1 := rfl
  unfold rv dvl
  rw [e1, p2_nat', ← Rat.intCast_mul, iv, val_dg]
  have e2 : (if s = true then -((X * 2 ^ k : Nat) : Int) else ((X * 2 ^ k : Nat) : Int)) = (if s = true then -(X : Int) else (X : Int)) * ((2 ^ k : Nat) : Int) := by
    cases s <;> simp [Int.natCast_mul, Int.neg_mul]
  rw [e2]
  have := rat_mk (n := (if s = true then -(X : Int) else (X : Int)) * ((2 ^ k : Nat) : Int)) (d := 1) (by decide) (by simp)
  exact Rat.ext this.1 this.2
theorem shl_len {X k n j : Nat} (hX : X < pw n) (hk : k < 32 * j) : (dg (X * 2 ^ k)).length ≤ n + j := by
  refine dg_le ?_
  refine Nat.lt_of_lt_of_le (Nat.mul_lt_mul_of_lt_of_le hX (Nat.pow_le_pow_right (by decide) (Nat.le_of_lt hk)) (Nat.two_pow_pos _)) ?_
  rw [← pw_pow j]
  exact Nat.le_of_eq (pw_add n j).symm
theorem ryrat_neg (s : Bool) (A : Option Addr) (n c : Nat) (e : Int) (q : Rat) (w : World) (h : Cy w s A n c e q) (hn : n ≤ 8000) (k : Nat) (hk : e = -(k : Int)) (h0 : 0 < k) (hk2 : k < 32 * 8000) :
    Calls Tryd.prog 23 #[.agg #[.bool s, .slice A n c, .int .i64 e]] w (GQ w q) := by
  obtain ⟨L, hL⟩ : ∃ L, (dg (1 * 2 ^ k)).length = L := ⟨_, rfl⟩
  have hLk : L ≤ 8001 := by rw [← hL]; have := shl_len (X := 1) (n := 1) (j := 8000) (by decide) hk2; omega
  have HL := hide hL
  have d0 : decide (e < 0) = true := by simp; omega
  have HQ := hide (show dvl s (val (dg (dm q))) (-(k : Int)) = q by rw [val_dg, h.2.1, ← hk, h.2.2.1, dvl_of h.2.2.2])
  have h := h.1
  clear hL
  have HK := hide (And.intro hk h0)
  have hm1 : -256000 ≤ e := by omega
  have hm2 : e ≤ 0 := by omega
  have HZ := hide (show -e = (k : Int) by omega)
  clear hk
  have h_1 := h.alloc (EY s A n c e)
  have ba_1 : Sy ((w).alloc (EY s A n c e)) (w.heap.size) (.bool s) (.slice A n c) (.int .i64 e) := by have h_ := Sy.new (w) (.bool s) (.slice A n c) (.int .i64 e); exact h_
  have F1 := (Below.refl w.heap.size w).alloc (Nat.le_refl _) (EY s A n c e)
  have h_2 := h_1.alloc EQ0
  have ba_2 := ba_1.alloc EQ0
  have br_2 : Sq (((w).alloc (EY s A n c e)).alloc EQ0) (w.heap.size + 1) (.bool false) (.slice none 0 0) (.slice none 0 0) := by have h_ := Sq.new ((w).alloc (EY s A n c e)) (.bool false) (.slice none 0 0) (.slice none 0 0); simp only [World.size_alloc] at h_; exact h_
  have F2 := F1.alloc F1.size EQ0
  go_enter Tryd.func23, Tryd.ntmps23
  have ba_u2 := ba_2.cell0
  have ba_v2 := ba_2.cell1
  have ba_w2 := ba_2.cell2
  have br_u2 := br_2.cell0
  have br_v2 := br_2.cell1
  have br_w2 := br_2.cell2
  have h_3 := h_2.alloc (.cells #[.int .u32 1] 47)
  have ba_3 := ba_2.alloc (.cells #[.int .u32 1] 47)
  have br_3 := br_2.alloc (.cells #[.int .u32 1] 47)
  have F3 := F2.alloc F2.size (.cells #[.int .u32 1] 47)
  have one := rd_one (((w).alloc (EY s A n c e)).alloc EQ0) 1 (by omega)
  simp only [World.size_alloc] at one
  go_wp2_with fail
  refine (rShl_L _ _ _ _ _ k _ L _ HZ.out (by simp [val]) HL.out one (by omega) (by omega)).mono ?_
  rintro e w4 ⟨A4, c4, rfl, den, b4⟩
  have h_4 := h_3.below b4
  have one_4 := one.below b4
  have ba_4 := ba_3.below b4 ba_3.lt
  have br_4 := br_3.below b4 br_3.lt
  have F4 := below_then F3 (Nat.le_refl _) b4
  have ba_u4 := ba_4.cell0
  have ba_v4 := ba_4.cell1
  have ba_w4 := ba_4.cell2
  have br_u4 := br_4.cell0
  have br_v4 := br_4.cell1
  have br_w4 := br_4.cell2
  go_wp2_with fail
  refine (rcanon_q _ _ _ _ _ _ _ _ _ ((iq_frac _ s A A4 n c L c4 _ k h_4 den).to HQ.out) (by omega) (by omega)).mono ?_
  rintro e w5 ⟨s5, A5, n5, c5, B5, m5, d5, rfl, x, b5⟩
  have h_5 := h_4.below b5
  have den_5 := den.below b5
  have ba_5 := ba_4.below b5 ba_4.lt
  have br_5 := br_4.below b5 br_4.lt
  have F5 := below_then F4 (Nat.le_refl _) b5
  have ba_u5 := ba_5.cell0
  have ba_v5 := ba_5.cell1
  have ba_w5 := ba_5.cell2
  have br_u5 := br_5.cell0
  have br_v5 := br_5.cell1
  have br_w5 := br_5.cell2
  have br_f05 := br_5.frozen 0
  have br_f15 := br_5.frozen 1
  have br_f25 := br_5.frozen 2
  go_wp2_with fail
  refine bodyPost_ret (v := .agg #[.bool s5, .slice A5 n5 c5, .slice B5 m5 d5]) (by simp [results, Tryd.results23, go_sem, (br_5.set0 (.bool s5)).cell0, ((br_5.set0 (.bool s5)).set1 (.slice A5 n5 c5)).cell1, (((br_5.set0 (.bool s5)).set1 (.slice A5 n5 c5)).set2 (.slice B5 m5 d5)).cell2]) rfl (gq_end F5 (by omega) br_5 x)
theorem ryrat_pos (s : Bool) (A : Option Addr) (n c : Nat) (e : Int) (q : Rat) (w : World) (h : Cy w s A n c e q) (hn : n ≤ 8000) (k : Nat) (hk : e = (k : Int)) (hk2 : k < 32 * 8000) (hX : dm q < pw n) :
    Calls Tryd.prog 23 #[.agg #[.bool s, .slice A n c, .int .i64 e]] w (GQ w q) := by
  obtain ⟨L, hL⟩ : ∃ L, (dg (dm q * 2 ^ k)).length = L := ⟨_, rfl⟩
  have hLk : L ≤ 16000 := by rw [← hL]; have := shl_len (n := n) (j := 8000) hX hk2; omega
  have HL := hide hL
  have d0 : decide (e < 0) = false := by simp; omega
  have HQ := hide (show dvl s (dm q) (k : Int) = q by rw [h.2.1, ← hk, h.2.2.1, dvl_of h.2.2.2])
  clear hL
  subst hk
  have h := h.1
  have h_1 := h.alloc (EY s A n c (k : Int))
  have ba_1 : Sy ((w).alloc (EY s A n c (k : Int))) (w.heap.size) (.bool s) (.slice A n c) (.int .i64 (k : Int)) := by have h_ := Sy.new (w) (.bool s) (.slice A n c) (.int .i64 (k : Int)); exact h_
  have F1 := (Below.refl w.heap.size w).alloc (Nat.le_refl _) (EY s A n c (k : Int))
  have h_2 := h_1.alloc EQ0
  have ba_2 := ba_1.alloc EQ0
  have br_2 : Sq (((w).alloc (EY s A n c (k : Int))).alloc EQ0) (w.heap.size + 1) (.bool false) (.slice none 0 0) (.slice none 0 0) := by have h_ := Sq.new ((w).alloc (EY s A n c (k : Int))) (.bool false) (.slice none 0 0) (.slice none 0 0); simp only [World.size_alloc] at h_; exact h_
  have F2 := F1.alloc F1.size EQ0
  go_enter Tryd.func23, Tryd.ntmps23
  have ba_u2 := ba_2.cell0
  have ba_v2 := ba_2.cell1
  have ba_w2 := ba_2.cell2
  have br_u2 := br_2.cell0
  have br_v2 := br_2.cell1
  have br_w2 := br_2.cell2
  go_wp2_with fail
  refine (rShl_L _ _ _ _ _ k _ L _ rfl (by rw [val_dg]) HL.out h_2 (by omega) (by omega)).mono ?_
  rintro e w3 ⟨A3, c3, rfl, num, b3⟩
  have h_3 := h_2.below b3
  have ba_3 := ba_2.below b3 ba_2.lt
  have br_3 := br_2.below b3 br_2.lt
  have F3 := below_then F2 (Nat.le_refl _) b3
  have ba_u3 := ba_3.cell0
  have ba_v3 := ba_3.cell1
  have ba_w3 := ba_3.cell2
  have br_u3 := br_3.cell0
  have br_v3 := br_3.cell1
  have br_w3 := br_3.cell2
  go_wp2_with fail
  refine (rcanon_q _ _ _ _ _ _ _ _ _ ((iq_whole _ s A3 L c3 (dm q) k num).to HQ.out) (by omega) (by omega)).mono ?_
  rintro e w4 ⟨s4, A4, n4, c4, B4, m4, d4, rfl, x, b4⟩
  have h_4 := h_3.below b4
  have num_4 := num.below b4
  have ba_4 := ba_3.below b4 ba_3.lt
  have br_4 := br_3.below b4 br_3.lt
  have F4 := below_then F3 (Nat.le_refl _) b4
  have ba_u4 := ba_4.cell0
  have ba_v4 := ba_4.cell1
  have ba_w4 := ba_4.cell2
  have br_u4 := br_4.cell0
  have br_v4 := br_4.cell1
  have br_w4 := br_4.cell2
  have br_f04 := br_4.frozen 0
  have br_f14 := br_4.frozen 1
  have br_f24 := br_4.frozen 2
  go_wp2_with fail
  refine bodyPost_ret (v := .agg #[.bool s4, .slice A4 n4 c4, .slice B4 m4 d4]) (by simp [results, Tryd.results23, go_sem, (br_4.set0 (.bool s4)).cell0, ((br_4.set0 (.bool s4)).set1 (.slice A4 n4 c4)).cell1, (((br_4.set0 (.bool s4)).set1 (.slice A4 n4 c4)).set2 (.slice B4 m4 d4)).cell2]) rfl (gq_end F4 (by omega) br_4 x)
theorem ryrat (s : Bool) (A : Option Addr) (n c : Nat) (e : Int) (q : Rat) (w : World) (h : Cy w s A n c e q) (hn : n ≤ 8000) (he : -256000 < e ∧ e < 256000) :
    Calls Tryd.prog 23 #[.agg #[.bool s, .slice A n c, .int .i64 e]] w (GQ w q) := by
  rcases Int.lt_or_le e 0 with h0 | h0
  · exact ryrat_neg s A n c e q w h hn (-e).toNat (by omega) (by omega) (by omega)
  · exact ryrat_pos s A n c e q w h hn e.toNat (by omega) (by omega) (by have := rd_lt h.1 (Nat.le_refl n); rwa [val_dg] at this)
end Go.Proofs.YthiapkalmmgliaaDoor
