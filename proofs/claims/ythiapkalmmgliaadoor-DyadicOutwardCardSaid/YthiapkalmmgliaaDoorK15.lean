/-
  What is canonical Valid accepts; 0 rounded.
-/
import Derived.Test.YthiapkalmmgliaaDoorK14
namespace Go.Proofs.YthiapkalmmgliaaDoor
open Go.RowKit
set_option linter.unusedVariables false
set_option linter.unusedSimpArgs false

theorem cy_vb {w : World} {s : Bool} {A : Option Addr} {n c : Nat} {e : Int} {q : Rat} (h : Cy w s A n c e q) (he : -1048576 ≤ e ∧ e ≤ 1048576) : vb s (dg (dm q)) e = true := by
  unfold vb
  by_cases h0 : q = 0
  · subst h0
    rw [dmq_zero, dg_zero, if_pos (by rfl), h.2.1, h.2.2.1]
    rfl
  · have h1 := dm_odd h0
    have h2 : (dg (dm q)).length ≠ 0 := fun hh => by
      have := dg_nil_iff.1 (List.eq_nil_of_length_eq_zero hh)
      omega
    rw [if_neg h2, tlen_dg, lim_mod2, val_dg]
    simp [h1, he.1, he.2]
theorem toward_zero (s : Bool) (A : Option Addr) (n c : Nat) (B : Option Addr) (m d : Nat) (k : Int) (up : Bool) (w : World) (h : Iq w s A n c B m d 0) (hn : n ≤ 16384) (hm : m ≤ 16384) (hk : 1 ≤ k ∧ k ≤ 4096) :
    Calls Tryd.prog 58 #[.agg #[.bool s, .slice A n c, .slice B m d], .int .i64 k, .bool up] w (GDE w 0 0) := by
  have d1 : decide (k < 1) = false := by simp; omega
  have d2 : decide (4096 < k) = false := by simp; omega
  clear hk
  have h_1 := h.alloc (EQ s A n c B m d)
  have bx_1 : Sq ((w).alloc (EQ s A n c B m d)) (w.heap.size) (.bool s) (.slice A n c) (.slice B m d) := by have h_ := Sq.new (w) (.bool s) (.slice A n c) (.slice B m d); exact h_
  have F1 := (Below.refl w.heap.size w).alloc (Nat.le_refl _) (EQ s A n c B m d)
  have h_2 := h_1.alloc EY0
  have bx_2 := bx_1.alloc EY0
  have br_2 : Sy (((w).alloc (EQ s A n c B m d)).alloc EY0) (w.heap.size + 1) (.bool false) (.slice none 0 0) (.int .i64 0) := by have h_ := Sy.new ((w).alloc (EQ s A n c B m d)) (.bool false) (.slice none 0 0) (.int .i64 0); simp only [World.size_alloc] at h_; exact h_
  have F2 := F1.alloc F1.size EY0
  go_enter Tryd.func58, Tryd.ntmps58
  have bx_u2 := bx_2.cell0
  have bx_v2 := bx_2.cell1
  have bx_w2 := bx_2.cell2
  have br_u2 := br_2.cell0
  have br_v2 := br_2.cell1
  have br_w2 := br_2.cell2
  go_wp2_with fail
  refine (rcanon_q _ _ _ _ _ _ _ _ _ h_2 hn hm).mono ?_
  rintro e w3 ⟨s3, A3, n3, c3, B3, m3, d3, rfl, x, b3⟩
  have h_3 := h_2.below b3
  have bx_3 := bx_2.below b3 bx_2.lt
  have br_3 := br_2.below b3 br_2.lt
  have F3 := below_then F2 (Nat.le_refl _) b3
  have bx_u3 := bx_3.cell0
  have bx_v3 := bx_3.cell1
  have bx_w3 := bx_3.cell2
  have br_u3 := br_3.cell0
  have br_v3 := br_3.cell1
  have br_w3 := br_3.cell2
  have hn0 : n3 = 0 := by have := x.1.len; exact this.symm
  subst hn0
  have bx_f03 := bx_3.frozen 0
  have bx_f13 := bx_3.frozen 1
  have bx_f23 := bx_3.frozen 2
  have br_4 := br_3.past (g' := w.heap.size) (u0 := .bool s3) (u1 := .slice A3 0 c3) (u2 := .slice B3 m3 d3) (by omega)
  have bx_4 := bx_3.stor (u0 := .bool s3) (u1 := .slice A3 0 c3) (u2 := .slice B3 m3 d3)
  have F4 := below_storQ (u0 := .bool s3) (u1 := .slice A3 0 c3) (u2 := .slice B3 m3 d3) F3 (show w.heap.size ≤ w.heap.size by omega)
  have bx_u4 := bx_4.cell0
  have bx_v4 := bx_4.cell1
  have bx_w4 := bx_4.cell2
  have br_u4 := br_4.cell0
  have br_v4 := br_4.cell1
  have br_w4 := br_4.cell2
  have br_f04 := br_4.frozen 0
  have br_f14 := br_4.frozen 1
  have br_f24 := br_4.frozen 2
  go_wp2_with fail
  refine bodyPost_ret (v := .tuple #[.agg #[.bool false, .slice none 0 0, .int .i64 0], .int .i64 0]) (by simp [results, Tryd.results58, go_sem, (br_4.set0 (.bool false)).cell0, ((br_4.set0 (.bool false)).set1 (.slice none 0 0)).cell1, (((br_4.set0 (.bool false)).set1 (.slice none 0 0)).set2 (.int .i64 0)).cell2]) rfl (gde_end 0 F4 (by omega) br_4 (cy_zero _))
end Go.Proofs.YthiapkalmmgliaaDoor
