/-
  The program's leave; the numbers of a step of the descent.
-/
import Derived.Test.YtabgniijlofapaaQ8
import Derived.Test.YtabgniijlofapaaQ5
namespace Go.Proofs.Ytabgniijlofapaa
open Go.RowKit
set_option linter.unusedVariables false
set_option linter.unusedSimpArgs false

theorem leave_q (E : Option Addr) (l e : Nat) (s : Bool) (A : Option Addr) (n c : Nat) (B : Option Addr) (m d : Nat) (K V : Nat) (x r : Rat) (w : World) (hr : ((V : Int) : Rat) + 1 / x = r) (h1 : 1 < x) (hE : Nz w E l e (K + 1) V) (h : Cq w s A n c B m d x) (hs : Qs K x) (hK : K ≤ 1000) (hK1 : 1 ≤ K) :
    Calls Try.prog 98 #[.slice E l e, .agg #[.bool s, .slice A n c, .slice B m d]] w (GQ w r) := by
  have hx0 : 0 < x := by grind
  have n0 := num_pos hx0
  obtain ⟨X, hX⟩ : ∃ X, x.num.natAbs = X := ⟨_, rfl⟩
  have n1 : x.den < X := by
    have := (lt_num (q := x) 1).1 h1
    omega
  have hx : Ny w A n c K X := by have := h.1; rw [hX] at this; exact this.ny (by rw [← hX]; exact hs.1)
  have hy := h.2.1
  have hmK : m ≤ K := h.ld hs.2
  obtain ⟨D, hD⟩ : ∃ D, x.den = D := ⟨_, rfl⟩
  have HD := hide (show rden (qd x) = D by rw [rden_qd, hD])
  obtain ⟨i1, i2⟩ := inv_parts hx0
  obtain ⟨s1, s2⟩ := shift (1 / x) (V : Int)
  rw [i1, i2, hX, hD] at s1
  rw [i2, hX] at s2
  rw [Rat.add_comm, hr] at s1 s2
  have dx := x.den_nz
  have HQ1 := hide (show r.num.natAbs = V * X + D by rw [s1]; omega)
  have HQ2 := hide (show qd r = dg X by rw [qd, if_neg (by omega), s2])
  have HQ3 := hide (show false = decide (r.num < 0) by rw [s1]; symm; rw [decide_eq_false_iff_not]; have : (0 : Int) ≤ (V : Int) * (X : Int) := Int.mul_nonneg (by omega) (by omega); omega)
  have o1 : K ≤ 1048576 := by omega
  have o2 : K + 1 + K ≤ 2 * K + 1 := by omega
  have o3 : 2 * K + 1 ≤ 1048576 := by omega
  have o4 : K ≤ 2 * K + 1 := by omega
  have o5 : 2 * K + 1 + 1 ≤ 2 * K + 2 := by omega
  have o6 : 2 * K + 2 ≤ 1048576 := by omega
  clear hX n1 hD s1 s2 i1 i2 hr h1 n0 hx0 h dx
  have hE_1 := hE.alloc (EQ s A n c B m d)
  have hx_1 := hx.alloc (EQ s A n c B m d)
  have hy_1 := hy.alloc (EQ s A n c B m d)
  have bx_1 : Sq ((w).alloc (EQ s A n c B m d)) (w.heap.size) (.bool s) (.slice A n c) (.slice B m d) := by have h_ := Sq.new (w) (.bool s) (.slice A n c) (.slice B m d); exact h_
  have F1 := (Below.refl w.heap.size w).alloc (Nat.le_refl _) (EQ s A n c B m d)
  have hE_2 := hE_1.alloc EQ0
  have hx_2 := hx_1.alloc EQ0
  have hy_2 := hy_1.alloc EQ0
  have bx_2 := bx_1.alloc EQ0
  have br_2 : Sq (((w).alloc (EQ s A n c B m d)).alloc EQ0) (w.heap.size + 1) (.bool false) (.slice none 0 0) (.slice none 0 0) := by have h_ := Sq.new ((w).alloc (EQ s A n c B m d)) (.bool false) (.slice none 0 0) (.slice none 0 0); simp only [World.size_alloc] at h_; exact h_
  have F2 := F1.alloc F1.size EQ0
  go_enter Try.func98, Try.ntmps98
  go_wp2_with fail
  have hE_3 := hE_2.drew
  have hx_3 := hx_2.drew
  have hy_3 := hy_2.drew
  have bx_3 := bx_2.drew
  have br_3 := br_2.drew
  have F3 := F2.drew
  go_region_held3 (fun w' => w'.cell? ⟨w.heap.size, 0, none⟩ = some (.bool s) ∧ w'.cell? ⟨w.heap.size, 1, none⟩ = some (.slice A n c) ∧ w'.cell? ⟨w.heap.size, 2, none⟩ = some (.slice B m d))
    (first
      | with_reducible exact ⟨bx_p.cell0, bx_p.cell1, bx_p.cell2⟩
      | with_reducible exact ⟨bx_6.cell0, bx_6.cell1, bx_6.cell2⟩
      | with_reducible exact ⟨bx_5.cell0, bx_5.cell1, bx_5.cell2⟩
      | with_reducible exact ⟨bx_4.cell0, bx_4.cell1, bx_4.cell2⟩
      | with_reducible exact ⟨bx_3.cell0, bx_3.cell1, bx_3.cell2⟩
      | fail)
    (first
      | (go_at_call 65; (with_reducible refine (mul_n _ _ _ _ _ _ (K + 1) K (2 * K + 1) _ _ (V * X) _ rfl hE_3 hx_3.nz o2 o3).mono ?_); rintro e w4 ⟨A4, n4, c4, rfl, p1, b4⟩; have hE_4 := hE_3.below b4; have hx_4 := hx_3.below b4; have hy_4 := hy_3.below b4; have bx_4 := bx_3.below b4 bx_3.lt; have br_4 := br_3.below b4 br_3.lt; have F4 := below_then F3 (Nat.le_refl _) b4)
      | (go_at_call 57; (with_reducible refine (divisor_n _ _ _ _ _ _ _ (qd x) K D _ HD.out hy_4 hmK hK1 o1).mono ?_); rintro e w5 ⟨A5, n5, c5, rfl, o1_, b5⟩; have hE_5 := hE_4.below b5; have hx_5 := hx_4.below b5; have hy_5 := hy_4.below b5; have p1_5 := p1.below b5; have bx_5 := bx_4.below b5 bx_4.lt; have br_5 := br_4.below b5 br_4.lt; have F5 := below_then F4 (Nat.le_refl _) b5)
      | (go_at_call 90; (with_reducible refine (add_n _ _ _ _ _ _ (2 * K + 1) (2 * K + 2) _ _ (V * X + D) _ rfl p1_5.nz (o1_.mono o4) o5 o6).mono ?_); rintro e w6 ⟨A6, n6, c6, rfl, z_, b6⟩; have hE_6 := hE_5.below b6; have hx_6 := hx_5.below b6; have hy_6 := hy_5.below b6; have p1_6 := p1_5.below b6; have o1__6 := o1_.below b6; have bx_6 := bx_5.below b6 bx_5.lt; have br_6 := br_5.below b6 br_5.lt; have F6 := below_then F5 (Nat.le_refl _) b6; have br_g0 := br_6.cell0; have br_h0 := br_6.frozen 0; have br_g1 := br_6.cell1; have br_h1 := br_6.frozen 1; have br_g2 := br_6.cell2; have br_h2 := br_6.frozen 2; have bx_p := bx_6.past (g' := w.heap.size + 1) (u0 := .bool false) (u1 := .slice A6 n6 c6) (u2 := .slice A n c) (by omega))
      | fail)
  have hc : Cq w6 false A6 n6 c6 A n c r := ⟨by rw [HQ1.out]; exact z_.2, by rw [HQ2.out]; exact hx_6.2, HQ3.out⟩
  go_wp2_with fail
  refine bodyPost_ret (v := .agg #[.bool false, .slice A6 n6 c6, .slice A n c]) (by simp [results, Try.results98, go_sem, (br_6.set0 (.bool false)).cell0, ((br_6.set0 (.bool false)).set1 (.slice A6 n6 c6)).cell1, (((br_6.set0 (.bool false)).set1 (.slice A6 n6 c6)).set2 (.slice A n c)).cell2]) rfl (gq_end F6 (by omega) br_6 hc)
theorem fl_nat (X D : Nat) (hD : D ≠ 0) : qfl (mkRat (X : Int) D) = ((X / D : Nat) : Int) := by
  rw [qfl, floor_mk _ _ hD]; rfl
theorem div_cast (X D : Nat) : (X : Rat) = (D : Rat) * ((X / D : Nat) : Rat) + ((X % D : Nat) : Rat) := by
  have := Nat.div_add_mod X D
  have h2 : ((D * (X / D) + X % D : Nat) : Rat) = (X : Rat) := by rw [this]
  rw [← h2, Rat.natCast_add, Rat.natCast_mul]
theorem mk_nat (X D : Nat) : mkRat (X : Int) D = (X : Rat) / (D : Rat) := by rw [Rat.mkRat_eq_div, Rat.intCast_natCast]
theorem fl_eq (X D : Nat) (hD : D ≠ 0) : (((X / D : Nat) : Int) : Rat) = mkRat (X : Int) D ↔ X % D = 0 := by
  have e := div_cast X D
  have a1 : (D : Rat) ≠ 0 := by simpa using hD
  rw [mk_nat, Rat.intCast_natCast]
  have h3 : ((X % D : Nat) : Rat) = 0 ↔ X % D = 0 := by simp
  rw [← h3]
  generalize ((X / D : Nat) : Rat) = a at *
  generalize ((X % D : Nat) : Rat) = b at *
  generalize (X : Rat) = x at *
  generalize (D : Rat) = y at *
  constructor <;> intro h <;> grind
theorem fr_inv (X D : Nat) (hD : D ≠ 0) (hR : X % D ≠ 0) : 1 / (mkRat (X : Int) D - (((X / D : Nat) : Int) : Rat)) = mkRat (D : Int) (X % D) := by
  have e := div_cast X D
  have a1 : (D : Rat) ≠ 0 := by simpa using hD
  have a2 : ((X % D : Nat) : Rat) ≠ 0 := by simpa using hR
  rw [mk_nat, mk_nat, Rat.intCast_natCast]
  generalize ((X / D : Nat) : Rat) = a at *
  generalize ((X % D : Nat) : Rat) = b at *
  generalize (X : Rat) = x at *
  generalize (D : Rat) = y at *
  have e2 : x / y - a = b / y := by grind
  rw [e2]
  grind
theorem le_fl (q : Rat) (f : Int) : (f : Rat) ≤ q ↔ f ≤ qfl q := by
  rw [le_num, qfl, Int.le_ediv_iff_mul_le (den_pos' q)]
end Go.Proofs.Ytabgniijlofapaa
