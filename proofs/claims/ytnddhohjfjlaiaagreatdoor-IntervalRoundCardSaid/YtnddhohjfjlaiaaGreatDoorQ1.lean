/-
  The program's quotient.
-/
import Derived.Test.YtnddhohjfjlaiaaGreatDoorQ0
namespace Go.Proofs.YtnddhohjfjlaiaaGreatDoor
open Go.RowKit
set_option linter.unusedVariables false
set_option linter.unusedSimpArgs false

theorem Ny.pos {w : World} {A : Option Addr} {n c k X : Nat} (h : Ny w A n c k X) : decide (0 < n) = decide (0 < X) := by
  have h1 := h.len
  have h2 : (dg X).length = 0 ↔ X = 0 := by rw [List.length_eq_zero_iff, dg_nil_iff]
  rw [h1] at h2
  simp only [decide_eq_decide]
  omega
theorem quo_int (s : Bool) (A B : Option Addr) (n m c d k l X Y : Nat) (q : Rat) (w : World) (hY : Y = 1) (hq1 : q.num.natAbs = X) (hq3 : decide (q.num < 0) = (s && decide (0 < X))) (hq2 : q.den = 1) (h : Ny w A n c k X) (h2 : Ny w B m d l Y) (hk : k ≤ 65536) (hl : l ≤ 65536) :
    Calls Tryz.prog 44 #[.bool s, .slice A n c, .slice B m d] w (GQ w q) := by
  have H1 := hide (show decide (Y = 1) = true by simpa using hY)
  clear hY
  have HQ1 := hide hq1
  have HQ2 := hide hq2
  have HQ3 := hide hq3
  clear hq1 hq2 hq3
  have lk : k ≤ 1048576 := by omega
  have ll : l ≤ 1048576 := by omega
  cases s
  · have h_1 := h.alloc EQ0
    have h2_1 := h2.alloc EQ0
    have br_1 : Sq ((w).alloc EQ0) (w.heap.size) (.bool false) (.slice none 0 0) (.slice none 0 0) := by have h_ := Sq.new (w) (.bool false) (.slice none 0 0) (.slice none 0 0); exact h_
    have F1 := (Below.refl w.heap.size w).alloc (Nat.le_refl _) EQ0
    go_enter Tryz.func44, Tryz.ntmps44
    go_wp2_with fail
    refine (isone_n _ _ _ _ _ true _ H1.out h2_1.nz ll).mono ?_
    rintro e w' ⟨rfl, rfl⟩
    go_wp2_with fail
    refine (isone_n _ _ _ _ _ true _ H1.out h2_1.nz ll).mono ?_
    rintro e w' ⟨rfl, rfl⟩
    have hc : Cq (w) false A n c none 0 0 q := ⟨by rw [HQ1.out]; exact h.2, by rw [qd, if_pos HQ2.out]; exact Rd.empty _ _ _, by rw [HQ3.out]; simp⟩
    go_wp2_with fail
    refine bodyPost_ret (v := .agg #[.bool false, .slice A n c, .slice none 0 0]) (by simp [results, Tryz.results44, go_sem]) rfl ⟨_, _, _, _, _, _, _, rfl, hc.alloc _, (Below.refl _ _).alloc (Nat.le_refl _) _⟩
  · have h_1 := h.alloc EQ0
    have h2_1 := h2.alloc EQ0
    have br_1 : Sq ((w).alloc EQ0) (w.heap.size) (.bool false) (.slice none 0 0) (.slice none 0 0) := by have h_ := Sq.new (w) (.bool false) (.slice none 0 0) (.slice none 0 0); exact h_
    have F1 := (Below.refl w.heap.size w).alloc (Nat.le_refl _) EQ0
    go_enter Tryz.func44, Tryz.ntmps44
    go_wp2_with fail
    refine (isone_n _ _ _ _ _ true _ H1.out h2_1.nz ll).mono ?_
    rintro e w' ⟨rfl, rfl⟩
    go_wp2_with fail
    refine (isone_n _ _ _ _ _ true _ H1.out h2_1.nz ll).mono ?_
    rintro e w' ⟨rfl, rfl⟩
    have hc : Cq (w) (decide (0 < n)) A n c none 0 0 q := ⟨by rw [HQ1.out]; exact h.2, by rw [qd, if_pos HQ2.out]; exact Rd.empty _ _ _, by rw [HQ3.out, Bool.true_and, h.pos]⟩
    go_wp2_with fail
    refine bodyPost_ret (v := .agg #[.bool (decide (0 < n)), .slice A n c, .slice none 0 0]) (by simp [results, Tryz.results44, go_sem]) rfl ⟨_, _, _, _, _, _, _, rfl, hc.alloc _, (Below.refl _ _).alloc (Nat.le_refl _) _⟩
theorem pquo_one (s : Bool) (A B : Option Addr) (n m c d k l X Y : Nat) (q : Rat) (w : World) (Gd XN DN : Nat) (hY : Y ≠ 1) (hY0 : 0 < Y) (hG : Nat.gcd X Y = Gd) (hG0 : 0 < Gd) (hX1 : X / Gd = XN) (hD : Y / Gd = DN) (hD1 : DN = 1) (hq1 : q.num.natAbs = XN) (hq3 : decide (q.num < 0) = (s && decide (0 < XN))) (hq2 : q.den = DN) (h : Ny w A n c k X) (h2 : Ny w B m d l Y) (hk : k ≤ 65536) (hl : l ≤ 65536) :
    Calls Tryz.prog 44 #[.bool s, .slice A n c, .slice B m d] w (GQ w q) := by
  have H1 := hide (show decide (Y = 1) = false by simpa using hY)
  have H2 := hide (show decide (DN = 1) = true by simpa using hD1)
  have HG := hide hG
  have HX := hide hX1
  have HD := hide hD
  clear hY hG hX1 hD
  rw [hD1] at hq2
  clear hD1
  have HQ1 := hide hq1
  have HQ2 := hide hq2
  have HQ3 := hide hq3
  clear hq1 hq2 hq3
  have lk : k ≤ 1048576 := by omega
  have ll : l ≤ 1048576 := by omega
  cases s
  · have h_1 := h.alloc EQ0
    have h2_1 := h2.alloc EQ0
    have br_1 : Sq ((w).alloc EQ0) (w.heap.size) (.bool false) (.slice none 0 0) (.slice none 0 0) := by have h_ := Sq.new (w) (.bool false) (.slice none 0 0) (.slice none 0 0); exact h_
    have F1 := (Below.refl w.heap.size w).alloc (Nat.le_refl _) EQ0
    go_enter Tryz.func44, Tryz.ntmps44
    go_wp2_with fail
    refine (isone_n _ _ _ _ _ false _ H1.out h2_1.nz ll).mono ?_
    rintro e w' ⟨rfl, rfl⟩
    go_wp2_with fail
    refine (gcd_n _ _ _ _ _ _ _ _ _ _ _ _ HG.out hY0 h_1.nz h2_1.nz hk hl).mono ?_
    rintro e w2 ⟨A2, n2, c2, rfl, gg, b2⟩
    have h_2 := h_1.below b2
    have h2_2 := h2_1.below b2
    have br_2 := br_1.below b2 br_1.lt
    have F2 := below_then F1 (Nat.le_refl _) b2
    have br_u2 := br_2.cell0
    have br_v2 := br_2.cell1
    have br_w2 := br_2.cell2
    go_wp2_with fail
    refine (divided_n _ _ _ _ _ _ _ _ _ _ _ _ HX.out hG0 h_2 gg.nz hk hl).mono ?_
    rintro e w3 ⟨A3, n3, c3, rfl, nx, b3⟩
    have h_3 := h_2.below b3
    have h2_3 := h2_2.below b3
    have gg_3 := gg.below b3
    have br_3 := br_2.below b3 br_2.lt
    have F3 := below_then F2 (Nat.le_refl _) b3
    have br_u3 := br_3.cell0
    have br_v3 := br_3.cell1
    have br_w3 := br_3.cell2
    go_wp2_with fail
    refine (divided_n _ _ _ _ _ _ _ _ _ _ _ _ HD.out hG0 h2_3 gg_3.nz hl hl).mono ?_
    rintro e w4 ⟨A4, n4, c4, rfl, dx, b4⟩
    have h_4 := h_3.below b4
    have h2_4 := h2_3.below b4
    have gg_4 := gg_3.below b4
    have nx_4 := nx.below b4
    have br_4 := br_3.below b4 br_3.lt
    have F4 := below_then F3 (Nat.le_refl _) b4
    have br_u4 := br_4.cell0
    have br_v4 := br_4.cell1
    have br_w4 := br_4.cell2
    go_wp2_with fail
    refine (isone_n _ _ _ _ _ true _ H2.out dx.nz ll).mono ?_
    rintro e w' ⟨rfl, rfl⟩
    have hc : Cq (w4) false A3 n3 c3 none 0 0 q := ⟨by rw [HQ1.out]; exact nx_4.2, by rw [qd, if_pos HQ2.out]; exact Rd.empty _ _ _, by rw [HQ3.out]; simp⟩
    have br_f04 := br_4.frozen 0
    have br_f14 := br_4.frozen 1
    have br_f24 := br_4.frozen 2
    go_wp2_with fail
    refine bodyPost_ret (v := .agg #[.bool false, .slice A3 n3 c3, .slice none 0 0]) (by simp [results, Tryz.results44, go_sem, (br_4.set0 (.bool false)).cell0, ((br_4.set0 (.bool false)).set1 (.slice A3 n3 c3)).cell1, (((br_4.set0 (.bool false)).set1 (.slice A3 n3 c3)).set2 (.slice none 0 0)).cell2]) rfl (gq_end F4 (by omega) br_4 hc)
  · have h_1 := h.alloc EQ0
    have h2_1 := h2.alloc EQ0
    have br_1 : Sq ((w).alloc EQ0) (w.heap.size) (.bool false) (.slice none 0 0) (.slice none 0 0) := by have h_ := Sq.new (w) (.bool false) (.slice none 0 0) (.slice none 0 0); exact h_
    have F1 := (Below.refl w.heap.size w).alloc (Nat.le_refl _) EQ0
    go_enter Tryz.func44, Tryz.ntmps44
    go_wp2_with fail
    refine (isone_n _ _ _ _ _ false _ H1.out h2_1.nz ll).mono ?_
    rintro e w' ⟨rfl, rfl⟩
    go_wp2_with fail
    refine (gcd_n _ _ _ _ _ _ _ _ _ _ _ _ HG.out hY0 h_1.nz h2_1.nz hk hl).mono ?_
    rintro e w2 ⟨A2, n2, c2, rfl, gg, b2⟩
    have h_2 := h_1.below b2
    have h2_2 := h2_1.below b2
    have br_2 := br_1.below b2 br_1.lt
    have F2 := below_then F1 (Nat.le_refl _) b2
    have br_u2 := br_2.cell0
    have br_v2 := br_2.cell1
    have br_w2 := br_2.cell2
    go_wp2_with fail
    refine (divided_n _ _ _ _ _ _ _ _ _ _ _ _ HX.out hG0 h_2 gg.nz hk hl).mono ?_
    rintro e w3 ⟨A3, n3, c3, rfl, nx, b3⟩
    have h_3 := h_2.below b3
    have h2_3 := h2_2.below b3
    have gg_3 := gg.below b3
    have br_3 := br_2.below b3 br_2.lt
    have F3 := below_then F2 (Nat.le_refl _) b3
    have br_u3 := br_3.cell0
    have br_v3 := br_3.cell1
    have br_w3 := br_3.cell2
    go_wp2_with fail
    refine (divided_n _ _ _ _ _ _ _ _ _ _ _ _ HD.out hG0 h2_3 gg_3.nz hl hl).mono ?_
    rintro e w4 ⟨A4, n4, c4, rfl, dx, b4⟩
    have h_4 := h_3.below b4
    have h2_4 := h2_3.below b4
    have gg_4 := gg_3.below b4
    have nx_4 := nx.below b4
    have br_4 := br_3.below b4 br_3.lt
    have F4 := below_then F3 (Nat.le_refl _) b4
    have br_u4 := br_4.cell0
    have br_v4 := br_4.cell1
    have br_w4 := br_4.cell2
    go_wp2_with fail
    refine (isone_n _ _ _ _ _ true _ H2.out dx.nz ll).mono ?_
    rintro e w' ⟨rfl, rfl⟩
    have hc : Cq (w4) (decide (0 < n3)) A3 n3 c3 none 0 0 q := ⟨by rw [HQ1.out]; exact nx_4.2, by rw [qd, if_pos HQ2.out]; exact Rd.empty _ _ _, by rw [HQ3.out, Bool.true_and, nx_4.pos]⟩
    have br_f04 := br_4.frozen 0
    have br_f14 := br_4.frozen 1
    have br_f24 := br_4.frozen 2
    go_wp2_with fail
    refine bodyPost_ret (v := .agg #[.bool (decide (0 < n3)), .slice A3 n3 c3, .slice none 0 0]) (by simp [results, Tryz.results44, go_sem, (br_4.set0 (.bool (decide (0 < n3)))).cell0, ((br_4.set0 (.bool (decide (0 < n3)))).set1 (.slice A3 n3 c3)).cell1, (((br_4.set0 (.bool (decide (0 < n3)))).set1 (.slice A3 n3 c3)).set2 (.slice none 0 0)).cell2]) rfl (gq_end F4 (by omega) br_4 hc)
theorem pquo_big (s : Bool) (A B : Option Addr) (n m c d k l X Y : Nat) (q : Rat) (w : World) (Gd XN DN : Nat) (hY : Y ≠ 1) (hY0 : 0 < Y) (hG : Nat.gcd X Y = Gd) (hG0 : 0 < Gd) (hX1 : X / Gd = XN) (hD : Y / Gd = DN) (hD1 : DN ≠ 1) (hq1 : q.num.natAbs = XN) (hq3 : decide (q.num < 0) = (s && decide (0 < XN))) (hq2 : q.den = DN) (h : Ny w A n c k X) (h2 : Ny w B m d l Y) (hk : k ≤ 65536) (hl : l ≤ 65536) :
    Calls Tryz.prog 44 #[.bool s, .slice A n c, .slice B m d] w (GQ w q) := by
  have H1 := hide (show decide (Y = 1) = false by simpa using hY)
  have H2 := hide (show decide (DN = 1) = false by simpa using hD1)
  have HG := hide hG
  have HX := hide hX1
  have HD := hide hD
  clear hY hG hX1 hD
  have HQ1 := hide hq1
  have HQ2 := hide hq2
  have HQ3 := hide hq3
  clear hq1 hq2 hq3
  have lk : k ≤ 1048576 := by omega
  have ll : l ≤ 1048576 := by omega
  cases s
  · have h_1 := h.alloc EQ0
    have h2_1 := h2.alloc EQ0
    have br_1 : Sq ((w).alloc EQ0) (w.heap.size) (.bool false) (.slice none 0 0) (.slice none 0 0) := by have h_ := Sq.new (w) (.bool false) (.slice none 0 0) (.slice none 0 0); exact h_
    have F1 := (Below.refl w.heap.size w).alloc (Nat.le_refl _) EQ0
    go_enter Tryz.func44, Tryz.ntmps44
    go_wp2_with fail
    refine (isone_n _ _ _ _ _ false _ H1.out h2_1.nz ll).mono ?_
    rintro e w' ⟨rfl, rfl⟩
    go_wp2_with fail
    refine (gcd_n _ _ _ _ _ _ _ _ _ _ _ _ HG.out hY0 h_1.nz h2_1.nz hk hl).mono ?_
    rintro e w2 ⟨A2, n2, c2, rfl, gg, b2⟩
    have h_2 := h_1.below b2
    have h2_2 := h2_1.below b2
    have br_2 := br_1.below b2 br_1.lt
    have F2 := below_then F1 (Nat.le_refl _) b2
    have br_u2 := br_2.cell0
    have br_v2 := br_2.cell1
    have br_w2 := br_2.cell2
    go_wp2_with fail
    refine (divided_n _ _ _ _ _ _ _ _ _ _ _ _ HX.out hG0 h_2 gg.nz hk hl).mono ?_
    rintro e w3 ⟨A3, n3, c3, rfl, nx, b3⟩
    have h_3 := h_2.below b3
    have h2_3 := h2_2.below b3
    have gg_3 := gg.below b3
    have br_3 := br_2.below b3 br_2.lt
    have F3 := below_then F2 (Nat.le_refl _) b3
    have br_u3 := br_3.cell0
    have br_v3 := br_3.cell1
    have br_w3 := br_3.cell2
    go_wp2_with fail
    refine (divided_n _ _ _ _ _ _ _ _ _ _ _ _ HD.out hG0 h2_3 gg_3.nz hl hl).mono ?_
    rintro e w4 ⟨A4, n4, c4, rfl, dx, b4⟩
    have h_4 := h_3.below b4
    have h2_4 := h2_3.below b4
    have gg_4 := gg_3.below b4
    have nx_4 := nx.below b4
    have br_4 := br_3.below b4 br_3.lt
    have F4 := below_then F3 (Nat.le_refl _) b4
    have br_u4 := br_4.cell0
    have br_v4 := br_4.cell1
    have br_w4 := br_4.cell2
    go_wp2_with fail
    refine (isone_n _ _ _ _ _ false _ H2.out dx.nz ll).mono ?_
    rintro e w' ⟨rfl, rfl⟩
    have hc : Cq (w4) false A3 n3 c3 A4 n4 c4 q := ⟨by rw [HQ1.out]; exact nx_4.2, by rw [qd, if_neg (by rw [HQ2.out]; exact hD1), HQ2.out]; exact dx.2, by rw [HQ3.out]; simp⟩
    have br_f04 := br_4.frozen 0
    have br_f14 := br_4.frozen 1
    have br_f24 := br_4.frozen 2
    go_wp2_with fail
    refine bodyPost_ret (v := .agg #[.bool false, .slice A3 n3 c3, .slice A4 n4 c4]) (by simp [results, Tryz.results44, go_sem, (br_4.set0 (.bool false)).cell0, ((br_4.set0 (.bool false)).set1 (.slice A3 n3 c3)).cell1, (((br_4.set0 (.bool false)).set1 (.slice A3 n3 c3)).set2 (.slice A4 n4 c4)).cell2]) rfl (gq_end F4 (by omega) br_4 hc)
  · have h_1 := h.alloc EQ0
    have h2_1 := h2.alloc EQ0
    have br_1 : Sq ((w).alloc EQ0) (w.heap.size) (.bool false) (.slice none 0 0) (.slice none 0 0) := by have h_ := Sq.new (w) (.bool false) (.slice none 0 0) (.slice none 0 0); exact h_
    have F1 := (Below.refl w.heap.size w).alloc (Nat.le_refl _) EQ0
    go_enter Tryz.func44, Tryz.ntmps44
    go_wp2_with fail
    refine (isone_n _ _ _ _ _ false _ H1.out h2_1.nz ll).mono ?_
    rintro e w' ⟨rfl, rfl⟩
    go_wp2_with fail
    refine (gcd_n _ _ _ _ _ _ _ _ _ _ _ _ HG.out hY0 h_1.nz h2_1.nz hk hl).mono ?_
    rintro e w2 ⟨A2, n2, c2, rfl, gg, b2⟩
    have h_2 := h_1.below b2
    have h2_2 := h2_1.below b2
    have br_2 := br_1.below b2 br_1.lt
    have F2 := below_then F1 (Nat.le_refl _) b2
    have br_u2 := br_2.cell0
    have br_v2 := br_2.cell1
    have br_w2 := br_2.cell2
    go_wp2_with fail
    refine (divided_n _ _ _ _ _ _ _ _ _ _ _ _ HX.out hG0 h_2 gg.nz hk hl).mono ?_
    rintro e w3 ⟨A3, n3, c3, rfl, nx, b3⟩
    have h_3 := h_2.below b3
    have h2_3 := h2_2.below b3
    have gg_3 := gg.below b3
    have br_3 := br_2.below b3 br_2.lt
    have F3 := below_then F2 (Nat.le_refl _) b3
    have br_u3 := br_3.cell0
    have br_v3 := br_3.cell1
    have br_w3 := br_3.cell2
    go_wp2_with fail
    refine (divided_n _ _ _ _ _ _ _ _ _ _ _ _ HD.out hG0 h2_3 gg_3.nz hl hl).mono ?_
    rintro e w4 ⟨A4, n4, c4, rfl, dx, b4⟩
    have h_4 := h_3.below b4
    have h2_4 := h2_3.below b4
    have gg_4 := gg_3.below b4
    have nx_4 := nx.below b4
    have br_4 := br_3.below b4 br_3.lt
    have F4 := below_then F3 (Nat.le_refl _) b4
    have br_u4 := br_4.cell0
    have br_v4 := br_4.cell1
    have br_w4 := br_4.cell2
    go_wp2_with fail
    refine (isone_n _ _ _ _ _ false _ H2.out dx.nz ll).mono ?_
    rintro e w' ⟨rfl, rfl⟩
    have hc : Cq (w4) (decide (0 < n3)) A3 n3 c3 A4 n4 c4 q := ⟨by rw [HQ1.out]; exact nx_4.2, by rw [qd, if_neg (by rw [HQ2.out]; exact hD1), HQ2.out]; exact dx.2, by rw [HQ3.out, Bool.true_and, nx_4.pos]⟩
    have br_f04 := br_4.frozen 0
    have br_f14 := br_4.frozen 1
    have br_f24 := br_4.frozen 2
    go_wp2_with fail
    refine bodyPost_ret (v := .agg #[.bool (decide (0 < n3)), .slice A3 n3 c3, .slice A4 n4 c4]) (by simp [results, Tryz.results44, go_sem, (br_4.set0 (.bool (decide (0 < n3)))).cell0, ((br_4.set0 (.bool (decide (0 < n3)))).set1 (.slice A3 n3 c3)).cell1, (((br_4.set0 (.bool (decide (0 < n3)))).set1 (.slice A3 n3 c3)).set2 (.slice A4 n4 c4)).cell2]) rfl (gq_end F4 (by omega) br_4 hc)
theorem quo_n (s : Bool) (A B : Option Addr) (n m c d k l X Y : Nat) (q : Rat) (w : World) (hq : mkRat (iv s (dg X)) Y = q) (h0 : Y ≠ 0) (h : Ny w A n c k X) (h2 : Ny w B m d l Y) (hk : k ≤ 65536) (hl : l ≤ 65536) :
    Calls Tryz.prog 44 #[.bool s, .slice A n c, .slice B m d] w (GQ w q) := by
  obtain ⟨p1, p2, p3⟩ := quo_parts s X Y h0
  have e : mkRat (if s then -(X : Int) else (X : Int)) Y = q := by rw [← hq]; unfold iv; rw [val_dg]
  rw [e] at p1 p2 p3
  by_cases h1 : Y = 1
  · rw [h1, Nat.gcd_one_right] at p1 p2 p3
    rw [Nat.div_one] at p1 p2 p3
    exact quo_int s A B n m c d k l X Y q w h1 p1 p3 p2 h h2 hk hl
  · have hg : 0 < Nat.gcd X Y := Nat.gcd_pos_of_pos_right _ (by omega)
    by_cases hD : Y / Nat.gcd X Y = 1
    · exact pquo_one s A B n m c d k l X Y q w _ _ _ h1 (by omega) rfl hg rfl rfl hD p1 p3 p2 h h2 hk hl
    · exact pquo_big s A B n m c d k l X Y q w _ _ _ h1 (by omega) rfl hg rfl rfl hD p1 p3 p2 h h2 hk hl
end Go.Proofs.YtnddhohjfjlaiaaGreatDoor
