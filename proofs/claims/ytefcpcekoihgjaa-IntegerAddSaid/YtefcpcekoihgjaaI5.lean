/-
  Integers: the specification's Sub, Sign, Cmp; Mul of both.
-/
import Derived.Test.YtefcpcekoihgjaaI4
namespace Go.Proofs.Ytefcpcekoihgjaa
open Go.RowKit
set_option linter.unusedVariables false
set_option linter.unusedSimpArgs false

theorem Cz.zero {w : World} {s : Bool} {A : Option Addr} {n c : Nat} {z : Int} (h : Cz w s A n c z) : n = 0 ↔ z = 0 := by
  rw [← h.1.len, List.length_eq_zero_iff, dg_nil_iff]
  omega
theorem iv_mul (s t : Bool) (xs ys : List Nat) : (if (!s == t) = true then -((val xs * val ys : Nat) : Int) else ((val xs * val ys : Nat) : Int)) = iv s xs * iv t ys := by
  cases s <;> cases t <;> simp [iv, Int.neg_mul, Int.mul_neg]
theorem rsub_int (s t : Bool) (A B : Option Addr) (n m c d : Nat) (z y Z : Int) (w : World) (hZ : z - y = Z) (h : Iz w s A n c z) (k : Iz w t B m d y) (hn : n ≤ 65536) (hm : m ≤ 65535) :
    Calls Try.prog 26 #[.agg #[.bool s, .slice A n c], .agg #[.bool t, .slice B m d]] w (GI w Z) := by
  have hy := ((k.alloc (EI s A n c)).alloc (EI t B m d)).alloc E0
  have hx := ((h.alloc (EI s A n c)).alloc (EI t B m d)).alloc E0
  have hy := hy.below (Below.refl _ _).drew
  have hx := hx.below (Below.refl _ _).drew
  have ly := k.abs hm
  have ly : (-y).natAbs < pw 65535 := by omega
  have hm2 : m ≤ 1048576 := by omega
  have hZ2 : z + -y = Z := by omega
  obtain ⟨B0, ha, hb, hs⟩ := ent3d (w := w) (a0 := .bool s) (a1 := .slice A n c) (b0 := .bool t) (b1 := .slice B m d) (c0 := .bool false) (c1 := .slice none 0 0) (Below.refl _ _)
  have HY := hide (show ∀ (w' : World) (s' : Bool) (A' : Option Addr) (n' c' : Nat), Cz w' s' A' n' c' (-y) → n' ≤ 65536 from fun _ _ _ _ _ hc => Nat.le_trans (hc.len ly) (by omega))
  clear ly
  go_enter Try.func26, Try.ntmps26
  go_wp2_with fail
  go_region_held3 (fun w' => w'.cell? ⟨w.heap.size, 0, none⟩ = some (.bool s) ∧ w'.cell? ⟨w.heap.size, 1, none⟩ = some (.slice A n c) ∧ w'.cell? ⟨w.heap.size + 1, 0, none⟩ = some (.bool t) ∧ w'.cell? ⟨w.heap.size + 1, 1, none⟩ = some (.slice B m d))
    (first
      | exact ⟨ha3.cell0, ha3.cell1, hb3.cell0, hb3.cell1⟩
      | exact ⟨ha2.cell0, ha2.cell1, hb2.cell0, hb2.cell1⟩
      | exact ⟨ha1.cell0, ha1.cell1, hb1.cell0, hb1.cell1⟩
      | exact ⟨ha.cell0, ha.cell1, hb.cell0, hb.cell1⟩
      | fail)
    (first
      | (go_at_call 34; (with_reducible refine (rneg_int _ _ _ _ _ _ hy hm2).mono ?_); rintro e w1 ⟨s1, A1, n1, c1, rfl, hr, b1⟩; have ha1 := ha.below b1 ha.lt; have hb1 := hb.below b1 hb.lt; have hx1 := hx.below b1; have hl1 := HY.out _ _ _ _ _ hr)
      | (go_at_call 24; (with_reducible refine (radd_int _ _ _ _ _ _ _ _ _ _ Z _ hZ2 hx1 hr.iz hn hl1).mono ?_); rintro e w2 ⟨s2, A2, n2, c2, rfl, hc, b2⟩; have ha2 := ha1.below b2 ha1.lt; have hb2 := hb1.below b2 hb1.lt; have hs2 := hs.below (below_then b1 (Nat.le_refl _) b2) hs.lt; have k0 := hs2.cell0; have k1 := hs2.cell1; have k2 := hs2.frozen 0; have k3 := hs2.frozen 1; have ha3 := ha2.past (g' := w.heap.size + 2) (u0 := .bool s2) (u1 := .slice A2 n2 c2) (by omega); have hb3 := hb2.past (g' := w.heap.size + 2) (u0 := .bool s2) (u1 := .slice A2 n2 c2) (by omega))
      | fail)
  have hB := below_then (below_then B0 (Nat.le_refl _) b1) (Nat.le_refl _) b2
  go_wp2_with fail
  refine bodyPost_ret (v := .agg #[.bool s2, .slice A2 n2 c2]) (by simp [results, Try.results26, go_sem, (hs2.set0 (.bool s2)).cell0, ((hs2.set0 (.bool s2)).set1 (.slice A2 n2 c2)).cell1]) rfl (gi_end hB (by omega) hs2 hc)
theorem rsign_int (s : Bool) (A : Option Addr) (n c : Nat) (z r : Int) (w : World) (hr : sz z = r) (h : Iz w s A n c z) (hn : n ≤ 1048576) :
    Calls Try.prog 17 #[.agg #[.bool s, .slice A n c]] w (Asks w (.int .i64 r)) := by
  have h1 := h.alloc (EI s A n c)
  have HR := hide hr
  clear hr
  go_enter Try.func17, Try.ntmps17
  go_wp2_with fail
  refine (rmake_int _ _ _ _ _ _ h1 hn).mono ?_
  rintro e w1 ⟨s1, A1, n1, c1, rfl, hc, b1⟩
  obtain ⟨hB, ha⟩ := ent1 b1
  have hB2 := below_stor (g := w.heap.size) (u0 := .bool s1) (u1 := .slice A1 n1 c1) hB (Nat.le_refl _)
  have hst := ha.stor (u0 := .bool s1) (u1 := .slice A1 n1 c1)
  have a0 := ha.cell0
  have a1 := ha.cell1
  have a2 := ha.frozen 0
  have a3 := ha.frozen 1
  have e0 := hst.cell0
  have e1 := hst.cell1
  have hz0 := hc.zero
  have hz1 := hc.2
  by_cases h0 : z = 0
  · have hz2 : ((n1 : Int) == 0) = true := by simp; omega
    have er : r = 0 := by rw [← HR.out, sz, if_pos h0]
    subst er
    clear hz0 hz1 h0 HR hc
    go_wp2
    go_ret
    exact ⟨rfl, hB2⟩
  · have hz2 : ((n1 : Int) == 0) = false := by simp; omega
    have er : r = if s1 then -1 else 1 := by rw [← HR.out, sz, if_neg h0, hz1]; simp
    subst er
    clear hz0 hz1 h0 HR
    have HC := hide hc
    clear hc
    cases s1
    all_goals
      go_wp2
      go_ret
      exact ⟨rfl, hB2⟩
theorem mul_int (s t : Bool) (A B : Option Addr) (n m c d : Nat) (z y Z : Int) (w : World) (hZ : z * y = Z) (h : Iz w s A n c z) (k : Iz w t B m d y) (hn : n ≤ 65536) (hm : m ≤ 65536) :
    Calls Try.prog 28 #[.agg #[.bool s, .slice A n c], .agg #[.bool t, .slice B m d]] w (GI w Z) := by
  obtain ⟨xs, h, ex⟩ := h
  obtain ⟨ys, k, ey⟩ := k
  have hZ := (iv_mul s t xs ys).trans (by rw [ex, ey, hZ])
  have hx := (rd_alloc (rd_alloc (rd_alloc h (EI s A n c)) (EI t B m d)) E0).drew
  have hy := (rd_alloc (rd_alloc (rd_alloc k (EI s A n c)) (EI t B m d)) E0).drew
  have hn2 : n ≤ 1048576 := by omega
  have hm2 : m ≤ 1048576 := by omega
  have HZ := hide hZ
  clear hZ ex ey
  obtain ⟨B0, ha, hb, hs⟩ := ent3d (w := w) (a0 := .bool s) (a1 := .slice A n c) (b0 := .bool t) (b1 := .slice B m d) (c0 := .bool false) (c1 := .slice none 0 0) (Below.refl _ _)
  go_enter Try.func28, Try.ntmps28
  go_wp2_with fail
  go_region_held3 (fun w' => w'.cell? ⟨w.heap.size, 0, none⟩ = some (.bool s) ∧ w'.cell? ⟨w.heap.size + 1, 0, none⟩ = some (.bool t) ∧ w'.cell? ⟨w.heap.size, 1, none⟩ = some (.slice A n c) ∧ w'.cell? ⟨w.heap.size + 1, 1, none⟩ = some (.slice B m d))
    (first
      | exact ⟨ha3.cell0, hb3.cell0, ha3.cell1, hb3.cell1⟩
      | exact ⟨ha2.cell0, hb2.cell0, ha2.cell1, hb2.cell1⟩
      | exact ⟨ha1.cell0, hb1.cell0, ha1.cell1, hb1.cell1⟩
      | exact ⟨ha.cell0, hb.cell0, ha.cell1, hb.cell1⟩
      | fail)
    (first
      | (go_at_call 51; (with_reducible refine (mul_calls _ _ _ _ _ _ _ _ _ hx hy hn2 hm2).mono ?_); rintro e w1 ⟨A1, c1, rfl, hr, b1⟩; have ha1 := ha.below b1 ha.lt; have hb1 := hb.below b1 hb.lt)
      | (go_at_call 35; (with_reducible refine (signed_calls (!s == t) _ _ _ _ Z _ hr HZ.out).mono ?_); rintro e w2 ⟨s2, A2, n2, c2, rfl, hc, b2⟩; have ha2 := ha1.below b2 ha1.lt; have hb2 := hb1.below b2 hb1.lt; have hs2 := hs.below (below_then b1 (Nat.le_refl _) b2) hs.lt; have k0 := hs2.cell0; have k1 := hs2.cell1; have k2 := hs2.frozen 0; have k3 := hs2.frozen 1; have ha3 := ha2.past (g' := w.heap.size + 2) (u0 := .bool s2) (u1 := .slice A2 n2 c2) (by omega); have hb3 := hb2.past (g' := w.heap.size + 2) (u0 := .bool s2) (u1 := .slice A2 n2 c2) (by omega))
      | fail)
  have hB := below_then (below_then B0 (Nat.le_refl _) b1) (Nat.le_refl _) b2
  go_wp2_with fail
  refine bodyPost_ret (v := .agg #[.bool s2, .slice A2 n2 c2]) (by simp [results, Try.results28, go_sem, (hs2.set0 (.bool s2)).cell0, ((hs2.set0 (.bool s2)).set1 (.slice A2 n2 c2)).cell1]) rfl (gi_end hB (by omega) hs2 hc)
theorem rmul_int (s t : Bool) (A B : Option Addr) (n m c d : Nat) (z y Z : Int) (w : World) (hZ : z * y = Z) (h : Iz w s A n c z) (k : Iz w t B m d y) (hn : n ≤ 65536) (hm : m ≤ 65536) :
    Calls Try.prog 29 #[.agg #[.bool s, .slice A n c], .agg #[.bool t, .slice B m d]] w (GI w Z) := by
  obtain ⟨xs, h, ex⟩ := h
  obtain ⟨ys, k, ey⟩ := k
  have hZ := (iv_mul s t xs ys).trans (by rw [ex, ey, hZ])
  have hl : (dg (val xs * val ys)).length ≤ 1048576 := Nat.le_trans (dg_le (mul_pw (rd_lt h hn) (rd_lt k hm))) (by omega)
  have hx := (rd_alloc (rd_alloc (rd_alloc h (EI s A n c)) (EI t B m d)) E0).drew
  have hy := (rd_alloc (rd_alloc (rd_alloc k (EI s A n c)) (EI t B m d)) E0).drew
  have hn2 : n ≤ 1048576 := by omega
  have hm2 : m ≤ 1048576 := by omega
  have HZ := hide hZ
  clear hZ ex ey
  obtain ⟨B0, ha, hb, hs⟩ := ent3d (w := w) (a0 := .bool s) (a1 := .slice A n c) (b0 := .bool t) (b1 := .slice B m d) (c0 := .bool false) (c1 := .slice none 0 0) (Below.refl _ _)
  go_enter Try.func29, Try.ntmps29
  go_wp2_with fail
  go_region_held3 (fun w' => w'.cell? ⟨w.heap.size, 0, none⟩ = some (.bool s) ∧ w'.cell? ⟨w.heap.size + 1, 0, none⟩ = some (.bool t) ∧ w'.cell? ⟨w.heap.size, 1, none⟩ = some (.slice A n c) ∧ w'.cell? ⟨w.heap.size + 1, 1, none⟩ = some (.slice B m d))
    (first
      | exact ⟨ha3.cell0, hb3.cell0, ha3.cell1, hb3.cell1⟩
      | exact ⟨ha2.cell0, hb2.cell0, ha2.cell1, hb2.cell1⟩
      | exact ⟨ha1.cell0, hb1.cell0, ha1.cell1, hb1.cell1⟩
      | exact ⟨ha.cell0, hb.cell0, ha.cell1, hb.cell1⟩
      | fail)
    (first
      | (go_at_call 52; (with_reducible refine (rmul_calls _ _ _ _ _ _ _ _ _ hx hy hn2 hm2).mono ?_); rintro e w1 ⟨A1, c1, rfl, hr, b1⟩; have ha1 := ha.below b1 ha.lt; have hb1 := hb.below b1 hb.lt)
      | (go_at_call 13; (with_reducible refine (rmake_int (!s == t) _ _ _ Z _ (iz_of (!s == t) hr HZ.out) hl).mono ?_); rintro e w2 ⟨s2, A2, n2, c2, rfl, hc, b2⟩; have ha2 := ha1.below b2 ha1.lt; have hb2 := hb1.below b2 hb1.lt; have hs2 := hs.below (below_then b1 (Nat.le_refl _) b2) hs.lt; have k0 := hs2.cell0; have k1 := hs2.cell1; have k2 := hs2.frozen 0; have k3 := hs2.frozen 1; have ha3 := ha2.past (g' := w.heap.size + 2) (u0 := .bool s2) (u1 := .slice A2 n2 c2) (by omega); have hb3 := hb2.past (g' := w.heap.size + 2) (u0 := .bool s2) (u1 := .slice A2 n2 c2) (by omega))
      | fail)
  have hB := below_then (below_then B0 (Nat.le_refl _) b1) (Nat.le_refl _) b2
  go_wp2_with fail
  refine bodyPost_ret (v := .agg #[.bool s2, .slice A2 n2 c2]) (by simp [results, Try.results29, go_sem, (hs2.set0 (.bool s2)).cell0, ((hs2.set0 (.bool s2)).set1 (.slice A2 n2 c2)).cell1]) rfl (gi_end hB (by omega) hs2 hc)
end Go.Proofs.Ytefcpcekoihgjaa
