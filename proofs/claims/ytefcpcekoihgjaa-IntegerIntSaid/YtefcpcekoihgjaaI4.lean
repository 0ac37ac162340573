/-
  Integers: Mul, the specification's Add, Sub, Mul.
-/
import Derived.Test.YtefcpcekoihgjaaI3
namespace Go.Proofs.Ytefcpcekoihgjaa
open Go.RowKit
set_option linter.unusedVariables false
set_option linter.unusedSimpArgs false

theorem iz_of {w : World} {A : Option Addr} {n c : Nat} {x : Nat} {Z : Int} (s : Bool) (hr : Rd w A n c (dg x)) (hZ : (if s then -(x : Int) else (x : Int)) = Z) : Iz w s A n c Z := ⟨_, hr, by rw [iv, val_dg]; exact hZ⟩
theorem radd_same (s : Bool) (A B : Option Addr) (n m c d : Nat) (xs ys : List Nat) (Z : Int) (w : World) (h : Rd w A n c xs) (k : Rd w B m d ys) (hn : n ≤ 65536) (hm : m ≤ 65536)
    (hZ : (if s then -((val xs + val ys : Nat) : Int) else ((val xs + val ys : Nat) : Int)) = Z) (hl : (dg (val xs + val ys)).length ≤ 1048576) :
    Calls Try.prog 24 #[.agg #[.bool s, .slice A n c], .agg #[.bool s, .slice B m d]] w (GI w Z) := by
  have hx := (rd_alloc (rd_alloc (rd_alloc h (EI s A n c)) (EI s B m d)) E0).drew
  have hy := (rd_alloc (rd_alloc (rd_alloc k (EI s A n c)) (EI s B m d)) E0).drew
  have hn2 : n ≤ 1048576 := by omega
  have hm2 : m ≤ 1048576 := by omega
  have HZ := hide hZ
  clear hZ
  obtain ⟨B0, ha, hb, hs⟩ := ent3d (w := w) (a0 := .bool s) (a1 := .slice A n c) (b0 := .bool s) (b1 := .slice B m d) (c0 := .bool false) (c1 := .slice none 0 0) (Below.refl _ _)
  go_enter Try.func24, Try.ntmps24
  go_wp2_with fail
  go_region_held3 (fun w' => w'.cell? ⟨w.heap.size, 0, none⟩ = some (.bool s) ∧ w'.cell? ⟨w.heap.size, 1, none⟩ = some (.slice A n c) ∧ w'.cell? ⟨w.heap.size + 1, 1, none⟩ = some (.slice B m d))
    (first
      | exact ⟨ha3.cell0, ha3.cell1, hb3.cell1⟩
      | exact ⟨ha2.cell0, ha2.cell1, hb2.cell1⟩
      | exact ⟨ha1.cell0, ha1.cell1, hb1.cell1⟩
      | exact ⟨ha.cell0, ha.cell1, hb.cell1⟩
      | fail)
    (first
      | (go_at_call 49; (with_reducible refine (radd_calls _ _ _ _ _ _ _ _ _ hx hy hn2 hm2).mono ?_); rintro e w1 ⟨A1, c1, rfl, hr, b1⟩; have ha1 := ha.below b1 ha.lt; have hb1 := hb.below b1 hb.lt)
      | (go_at_call 13; (with_reducible refine (rmake_int _ _ _ _ Z _ (iz_of s hr HZ.out) hl).mono ?_); rintro e w2 ⟨s2, A2, n2, c2, rfl, hc, b2⟩; have ha2 := ha1.below b2 ha1.lt; have hb2 := hb1.below b2 hb1.lt; have hs2 := hs.below (below_then b1 (Nat.le_refl _) b2) hs.lt; have k0 := hs2.cell0; have k1 := hs2.cell1; have k2 := hs2.frozen 0; have k3 := hs2.frozen 1; have ha3 := ha2.past (g' := w.heap.size + 2) (u0 := .bool s2) (u1 := .slice A2 n2 c2) (by omega); have hb3 := hb2.past (g' := w.heap.size + 2) (u0 := .bool s2) (u1 := .slice A2 n2 c2) (by omega))
      | fail)
  have hB := below_then (below_then B0 (Nat.le_refl _) b1) (Nat.le_refl _) b2
  go_wp2_with fail
  refine bodyPost_ret (v := .agg #[.bool s2, .slice A2 n2 c2]) (by simp [results, Try.results24, go_sem, (hs2.set0 (.bool s2)).cell0, ((hs2.set0 (.bool s2)).set1 (.slice A2 n2 c2)).cell1]) rfl (gi_end hB (by omega) hs2 hc)
theorem radd_diff_ge (s : Bool) (A B : Option Addr) (n m c d : Nat) (xs ys : List Nat) (Z : Int) (w : World) (h : Rd w A n c xs) (k : Rd w B m d ys) (hn : n ≤ 65536) (hm : m ≤ 65536) (hle : val ys ≤ val xs)
    (hZ : (if s then -((val xs - val ys : Nat) : Int) else ((val xs - val ys : Nat) : Int)) = Z) (hl : (dg (val xs - val ys)).length ≤ 1048576) :
    Calls Try.prog 24 #[.agg #[.bool s, .slice A n c], .agg #[.bool (!s), .slice B m d]] w (GI w Z) := by
  have h1 := rd_alloc (rd_alloc (rd_alloc h (EI s A n c)) (EI (!s) B m d)) E0
  have k1 := rd_alloc (rd_alloc (rd_alloc k (EI s A n c)) (EI (!s) B m d)) E0
  have HZ := hide hZ
  clear hZ
  go_enter Try.func24, Try.ntmps24
  go_wp2_with fail
  refine (rsub_ge _ _ _ _ _ _ _ _ _ h1 k1 (by omega) (by omega) hle).mono ?_
  rintro e w2 ⟨A2, c2, rfl, hr2, b2⟩
  obtain ⟨B1, ha2, hb2, hs0⟩ := ent3 b2
  have a02 := ha2.cell0
  go_wp2_with fail
  refine (rmake_int s _ _ _ Z _ (iz_of s hr2 HZ.out) hl).mono ?_
  rintro e w3 ⟨s3, A3, n3, c3, rfl, hc, b3⟩
  have hs := hs0.below b3 hs0.lt
  have hB := below_then B1 (Nat.le_refl _) b3
  have k0_ := hs.cell0
  have k1_ := hs.cell1
  have k2_ := hs.frozen 0
  have k3_ := hs.frozen 1
  go_wp2_with fail
  refine bodyPost_ret (v := .agg #[.bool s3, .slice A3 n3 c3]) (by simp [results, Try.results24, go_sem, (hs.set0 (.bool s3)).cell0, ((hs.set0 (.bool s3)).set1 (.slice A3 n3 c3)).cell1]) rfl (gi_end hB (by omega) hs hc)

theorem radd_diff_lt (s : Bool) (A B : Option Addr) (n m c d : Nat) (xs ys : List Nat) (Z : Int) (w : World) (h : Rd w A n c xs) (k : Rd w B m d ys) (hn : n ≤ 65536) (hm : m ≤ 65536) (hlt : val xs < val ys)
    (hZ : (if (!s) then -((val ys - val xs : Nat) : Int) else ((val ys - val xs : Nat) : Int)) = Z) (hl : (dg (val ys - val xs)).length ≤ 1048576) :
    Calls Try.prog 24 #[.agg #[.bool s, .slice A n c], .agg #[.bool (!s), .slice B m d]] w (GI w Z) := by
  have h1 := rd_alloc (rd_alloc (rd_alloc h (EI s A n c)) (EI (!s) B m d)) E0
  have k1 := rd_alloc (rd_alloc (rd_alloc k (EI s A n c)) (EI (!s) B m d)) E0
  have hle := Nat.le_of_lt hlt
  have HZ := hide hZ
  clear hZ
  go_enter Try.func24, Try.ntmps24
  go_wp2_with fail
  refine (rsub_e0 _ _ _ _ _ _ _ _ _ h1 k1 (by omega) (by omega) hlt).mono ?_
  rintro e w2 ⟨A2, c2, rfl, -, b2⟩
  have h2 := h1.below b2
  have k2 := k1.below b2
  obtain ⟨B1, ha2, hb2, hs0⟩ := ent3 b2
  have a1 := ha2.cell1
  have e1 := hb2.cell1
  go_wp2_with fail
  refine (rsub_ge _ _ _ _ _ _ _ _ _ k2 h2 (by omega) (by omega) hle).mono ?_
  rintro e w3 ⟨A3, c3, rfl, hr2, b3⟩
  have hb3 := hb2.below b3 hb2.lt
  have e02 := hb3.cell0
  go_wp2_with fail
  refine (rmake_int (!s) _ _ _ Z _ (iz_of (!s) hr2 HZ.out) hl).mono ?_
  rintro e w4 ⟨s3, A3, n3, c3, rfl, hc, b4⟩
  have b34 := below_then b3 (Nat.le_refl _) b4
  have hs := hs0.below b34 hs0.lt
  have hB := below_then B1 (Nat.le_refl _) b34
  have k0_ := hs.cell0
  have k1_ := hs.cell1
  have k2_ := hs.frozen 0
  have k3_ := hs.frozen 1
  go_wp2_with fail
  refine bodyPost_ret (v := .agg #[.bool s3, .slice A3 n3 c3]) (by simp [results, Try.results24, go_sem, (hs.set0 (.bool s3)).cell0, ((hs.set0 (.bool s3)).set1 (.slice A3 n3 c3)).cell1]) rfl (gi_end hB (by omega) hs hc)

theorem radd_int (s t : Bool) (A B : Option Addr) (n m c d : Nat) (z y Z : Int) (w : World) (hZ : z + y = Z) (h : Iz w s A n c z) (k : Iz w t B m d y) (hn : n ≤ 65536) (hm : m ≤ 65536) :
    Calls Try.prog 24 #[.agg #[.bool s, .slice A n c], .agg #[.bool t, .slice B m d]] w (GI w Z) := by
  obtain ⟨xs, h, hx⟩ := h
  obtain ⟨ys, k, hy⟩ := k
  have lx := rd_lt h hn
  have ly := rd_lt k hm
  have lxy := add_pw lx ly
  have l1 : (dg (val xs + val ys)).length ≤ 1048576 := Nat.le_trans (dg_le lxy) (by omega)
  have l2 : (dg (val xs - val ys)).length ≤ 1048576 := Nat.le_trans (dg_le (Nat.lt_of_le_of_lt (Nat.sub_le _ _) lx)) (by omega)
  have l3 : (dg (val ys - val xs)).length ≤ 1048576 := Nat.le_trans (dg_le (Nat.lt_of_le_of_lt (Nat.sub_le _ _) ly)) (by omega)
  clear lx ly lxy
  by_cases e : t = s
  · subst e
    refine radd_same t A B n m c d xs ys Z w h k hn hm ?_ l1
    rw [← hZ, ← hx, ← hy]
    cases t <;> simp [iv] <;> omega
  · obtain rfl : t = !s := by cases s <;> cases t <;> simp_all
    rcases Nat.lt_or_ge (val xs) (val ys) with hlt | hle
    · refine radd_diff_lt s A B n m c d xs ys Z w h k hn hm hlt ?_ l3
      rw [← hZ, ← hx, ← hy]
      cases s <;> simp [iv] <;> omega
    · refine radd_diff_ge s A B n m c d xs ys Z w h k hn hm hle ?_ l2
      rw [← hZ, ← hx, ← hy]
      cases s <;> simp [iv] <;> omega
end Go.Proofs.Ytefcpcekoihgjaa
