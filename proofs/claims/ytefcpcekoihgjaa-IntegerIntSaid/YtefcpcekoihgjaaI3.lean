/-
  Integers: Add, Sub, Mul, Cmp.
-/
import Derived.Test.YtefcpcekoihgjaaI2
import Derived.Deep.RegionHeld3
namespace Go.Proofs.Ytefcpcekoihgjaa
open Go.RowKit
set_option linter.unusedVariables false
set_option linter.unusedSimpArgs false

theorem Rd.stor {w : World} {g : Nat} {s0 t : Bool} {A0 B : Option Addr} {n0 c0 m d : Nat} (hs : Sb w g (.bool s0) (.slice A0 n0 c0)) {A : Option Addr} {n c : Nat} {xs : List Nat} (h : Rd w A n c xs) : Rd ((w.setCell ⟨g, 0, none⟩ (.bool t)).setCell ⟨g, 1, none⟩ (.slice B m d)) A n c xs := by
  have ha := h.away hs
  exact (h.far ha _ _).far ha _ _
theorem Rd.drew {w : World} {A : Option Addr} {n c : Nat} {xs : List Nat} (h : Rd w A n c xs) : Rd w.drew A n c xs := h.below (Below.refl _ _).drew
theorem Iz.set0 {w : World} {g : Nat} {s0 : Bool} {A0 : Option Addr} {n0 c0 : Nat} {s : Bool} {A : Option Addr} {n c : Nat} {z : Int} (h : Iz w s A n c z) (hs : Sb w g (.bool s0) (.slice A0 n0 c0)) (t : Bool) : Iz (w.setCell ⟨g, 0, none⟩ (.bool t)) s A n c z := by
  obtain ⟨xs, h, hz⟩ := h
  exact ⟨xs, h.far (h.away hs) _ _, hz⟩
abbrev E0 : Obj := .cells #[.bool false, .slice none 0 0] 25
abbrev EI (s : Bool) (A : Option Addr) (n c : Nat) : Obj := .cells #[.bool s, .slice A n c] 25
section
variable {w w1 : World} {a0 a1 b0 b1 c0 c1 d0 d1 : Value}
theorem ent3d (hb : Below (((w.alloc (.cells #[a0, a1] 25)).alloc (.cells #[b0, b1] 25)).alloc (.cells #[c0, c1] 25)).drew.heap.size (((w.alloc (.cells #[a0, a1] 25)).alloc (.cells #[b0, b1] 25)).alloc (.cells #[c0, c1] 25)).drew w1) :
    Below w.heap.size w w1 ∧ Sb w1 w.heap.size a0 a1 ∧ Sb w1 (w.heap.size + 1) b0 b1 ∧ Sb w1 (w.heap.size + 2) c0 c1 :=
  ent3 ((Below.refl _ _).drew.trans hb)
end
theorem add_same (s : Bool) (A B : Option Addr) (n m c d : Nat) (xs ys : List Nat) (Z : Int) (w : World) (h : Rd w A n c xs) (k : Rd w B m d ys) (hn : n ≤ 65536) (hm : m ≤ 65536)
    (hZ : (if s then -((val xs + val ys : Nat) : Int) else ((val xs + val ys : Nat) : Int)) = Z) :
    Calls Try.prog 23 #[.agg #[.bool s, .slice A n c], .agg #[.bool s, .slice B m d]] w (GI w Z) := by
  have hx := (rd_alloc (rd_alloc (rd_alloc h (EI s A n c)) (EI s B m d)) E0).drew
  have hy := (rd_alloc (rd_alloc (rd_alloc k (EI s A n c)) (EI s B m d)) E0).drew
  have hn2 : n ≤ 1048576 := by omega
  have hm2 : m ≤ 1048576 := by omega
  have HZ := hide hZ
  clear hZ
  obtain ⟨B0, ha, hb, hs⟩ := ent3d (w := w) (a0 := .bool s) (a1 := .slice A n c) (b0 := .bool s) (b1 := .slice B m d) (c0 := .bool false) (c1 := .slice none 0 0) (Below.refl _ _)
  go_enter Try.func23, Try.ntmps23
  go_wp2_with fail
  go_region_held3 (fun w' => w'.cell? ⟨w.heap.size, 0, none⟩ = some (.bool s) ∧ w'.cell? ⟨w.heap.size, 1, none⟩ = some (.slice A n c) ∧ w'.cell? ⟨w.heap.size + 1, 1, none⟩ = some (.slice B m d))
    (first
      | exact ⟨ha3.cell0, ha3.cell1, hb3.cell1⟩
      | exact ⟨ha2.cell0, ha2.cell1, hb2.cell1⟩
      | exact ⟨ha1.cell0, ha1.cell1, hb1.cell1⟩
      | exact ⟨ha.cell0, ha.cell1, hb.cell1⟩
      | fail)
    (first
      | (go_at_call 46; (with_reducible refine (add_calls _ _ _ _ _ _ _ _ _ hx hy hn2 hm2).mono ?_); rintro e w1 ⟨A1, c1, rfl, hr, b1⟩; have ha1 := ha.below b1 ha.lt; have hb1 := hb.below b1 hb.lt)
      | (go_at_call 35; (with_reducible refine (signed_calls _ _ _ _ _ Z _ hr HZ.out).mono ?_); rintro e w2 ⟨s2, A2, n2, c2, rfl, hc, b2⟩; have ha2 := ha1.below b2 ha1.lt; have hb2 := hb1.below b2 hb1.lt; have hs2 := hs.below (below_then b1 (Nat.le_refl _) b2) hs.lt; have k0 := hs2.cell0; have k1 := hs2.cell1; have k2 := hs2.frozen 0; have k3 := hs2.frozen 1; have ha3 := ha2.past (g' := w.heap.size + 2) (u0 := .bool s2) (u1 := .slice A2 n2 c2) (by omega); have hb3 := hb2.past (g' := w.heap.size + 2) (u0 := .bool s2) (u1 := .slice A2 n2 c2) (by omega))
      | fail)
  have hB := below_then (below_then B0 (Nat.le_refl _) b1) (Nat.le_refl _) b2
  go_wp2_with fail
  refine bodyPost_ret (v := .agg #[.bool s2, .slice A2 n2 c2]) (by simp [results, Try.results23, go_sem, (hs2.set0 (.bool s2)).cell0, ((hs2.set0 (.bool s2)).set1 (.slice A2 n2 c2)).cell1]) rfl (gi_end hB (by omega) hs2 hc)

theorem add_diff_ge (s : Bool) (A B : Option Addr) (n m c d : Nat) (xs ys : List Nat) (Z : Int) (w : World) (h : Rd w A n c xs) (k : Rd w B m d ys) (hn : n ≤ 65536) (hm : m ≤ 65536) (hle : val ys ≤ val xs)
    (hZ : (if s then -((val xs - val ys : Nat) : Int) else ((val xs - val ys : Nat) : Int)) = Z) :
    Calls Try.prog 23 #[.agg #[.bool s, .slice A n c], .agg #[.bool (!s), .slice B m d]] w (GI w Z) := by
  have h1 := rd_alloc (rd_alloc (rd_alloc h (EI s A n c)) (EI (!s) B m d)) E0
  have k1 := rd_alloc (rd_alloc (rd_alloc k (EI s A n c)) (EI (!s) B m d)) E0
  obtain ⟨r, hr⟩ : ∃ r, sg (val xs) (val ys) = r := ⟨_, rfl⟩
  have hr0 : decide (r < 0) = false := by rw [← hr]; unfold sg; simp; split <;> (try split) <;> omega
  have HR := hide hr
  have HZ := hide hZ
  clear hZ hr
  go_enter Try.func23, Try.ntmps23
  go_wp2_with fail
  refine (cmp_b _ _ _ _ _ _ _ _ _ r h1 k1 (by omega) (by omega) HR.out).mono ?_
  rintro e w1 ⟨rfl, b1⟩
  have h2 := h1.below b1
  have k2 := k1.below b1
  obtain ⟨B1, ha, hb, hs0⟩ := ent3 b1
  have a0 := ha.cell0
  have a1 := ha.cell1
  have e1 := hb.cell1
  go_wp2_with fail
  refine (sub_ge _ _ _ _ _ _ _ _ _ h2 k2 (by omega) (by omega) hle).mono ?_
  rintro e w2 ⟨A2, c2, rfl, hr2, b2⟩
  have ha2 := ha.below b2 ha.lt
  have a02 := ha2.cell0
  go_wp2_with fail
  refine (signed_calls s _ _ _ _ Z _ hr2 HZ.out).mono ?_
  rintro e w3 ⟨s3, A3, n3, c3, rfl, hc, b3⟩
  have b13 := below_then b2 (Nat.le_refl _) b3
  have hs := hs0.below b13 hs0.lt
  have hB := below_then B1 (Nat.le_refl _) b13
  have k0_ := hs.cell0
  have k1_ := hs.cell1
  have k2_ := hs.frozen 0
  have k3_ := hs.frozen 1
  go_wp2_with fail
  refine bodyPost_ret (v := .agg #[.bool s3, .slice A3 n3 c3]) (by simp [results, Try.results23, go_sem, (hs.set0 (.bool s3)).cell0, ((hs.set0 (.bool s3)).set1 (.slice A3 n3 c3)).cell1]) rfl (gi_end hB (by omega) hs hc)

theorem add_diff_lt (s : Bool) (A B : Option Addr) (n m c d : Nat) (xs ys : List Nat) (Z : Int) (w : World) (h : Rd w A n c xs) (k : Rd w B m d ys) (hn : n ≤ 65536) (hm : m ≤ 65536) (hlt : val xs < val ys)
    (hZ : (if (!s) then -((val ys - val xs : Nat) : Int) else ((val ys - val xs : Nat) : Int)) = Z) :
    Calls Try.prog 23 #[.agg #[.bool s, .slice A n c], .agg #[.bool (!s), .slice B m d]] w (GI w Z) := by
  have h1 := rd_alloc (rd_alloc (rd_alloc h (EI s A n c)) (EI (!s) B m d)) E0
  have k1 := rd_alloc (rd_alloc (rd_alloc k (EI s A n c)) (EI (!s) B m d)) E0
  have hr := sg_lt hlt
  have hle := Nat.le_of_lt hlt
  have HR := hide hr
  have HZ := hide hZ
  clear hZ hr
  go_enter Try.func23, Try.ntmps23
  go_wp2_with fail
  refine (cmp_b _ _ _ _ _ _ _ _ _ (-1) h1 k1 (by omega) (by omega) HR.out).mono ?_
  rintro e w1 ⟨rfl, b1⟩
  have h2 := h1.below b1
  have k2 := k1.below b1
  obtain ⟨B1, ha, hb, hs0⟩ := ent3 b1
  have hsa := ha.stor (u0 := .bool (!s)) (u1 := .slice B m d)
  have hba := hb.past (g' := w.heap.size) (u0 := .bool (!s)) (u1 := .slice B m d) (by omega)
  have hsb := hba.stor (u0 := .bool s) (u1 := .slice A n c)
  have hab := hsa.past (g' := w.heap.size + 1) (u0 := .bool s) (u1 := .slice A n c) (by omega)
  have hss := (hs0.past (g' := w.heap.size) (u0 := .bool (!s)) (u1 := .slice B m d) (by omega)).past (g' := w.heap.size + 1) (u0 := .bool s) (u1 := .slice A n c) (by omega)
  have h3 := (h2.stor (t := !s) (B := B) (m := m) (d := d) ha).stor (t := s) (B := A) (m := n) (d := c) hba
  have k3 := (k2.stor (t := !s) (B := B) (m := m) (d := d) ha).stor (t := s) (B := A) (m := n) (d := c) hba
  have B2 := below_stor (g := w.heap.size + 1) (u0 := .bool s) (u1 := .slice A n c) (below_stor (g := w.heap.size) (u0 := .bool (!s)) (u1 := .slice B m d) B1 (by omega)) (by omega)
  have a0 := ha.cell0
  have a1 := ha.cell1
  have a2 := ha.frozen 0
  have a3 := ha.frozen 1
  have e0 := hb.cell0
  have e1 := hb.cell1
  have e2 := hb.frozen 0
  have e3 := hb.frozen 1
  have f0 := hba.cell0
  have f1 := hba.cell1
  have f2 := hba.frozen 0
  have f3 := hba.frozen 1
  have g0 := hab.cell0
  have g1 := hab.cell1
  have i0 := hsb.cell0
  have i1 := hsb.cell1
  go_wp2_with fail
  refine (sub_ge _ _ _ _ _ _ _ _ _ k3 h3 (by omega) (by omega) hle).mono ?_
  rintro e w2 ⟨A2, c2, rfl, hr2, b2⟩
  have hs2 := hab.below b2 hab.lt
  have x0 := hs2.cell0
  go_wp2_with fail
  refine (signed_calls (!s) _ _ _ _ Z _ hr2 HZ.out).mono ?_
  rintro e w3 ⟨s3, A3, n3, c3, rfl, hc, b3⟩
  have b13 := below_then b2 (Nat.le_refl _) b3
  have hs := hss.below b13 hss.lt
  have hB := below_then B2 (Nat.le_refl _) b13
  have k0_ := hs.cell0
  have k1_ := hs.cell1
  have k2_ := hs.frozen 0
  have k3_ := hs.frozen 1
  go_wp2_with fail
  refine bodyPost_ret (v := .agg #[.bool s3, .slice A3 n3 c3]) (by simp [results, Try.results23, go_sem, (hs.set0 (.bool s3)).cell0, ((hs.set0 (.bool s3)).set1 (.slice A3 n3 c3)).cell1]) rfl (gi_end hB (by omega) hs hc)

theorem add_int (s t : Bool) (A B : Option Addr) (n m c d : Nat) (z y Z : Int) (w : World) (hZ : z + y = Z) (h : Iz w s A n c z) (k : Iz w t B m d y) (hn : n ≤ 65536) (hm : m ≤ 65536) :
    Calls Try.prog 23 #[.agg #[.bool s, .slice A n c], .agg #[.bool t, .slice B m d]] w (GI w Z) := by
  obtain ⟨xs, h, hx⟩ := h
  obtain ⟨ys, k, hy⟩ := k
  by_cases e : t = s
  · subst e
    refine add_same t A B n m c d xs ys Z w h k hn hm ?_
    rw [← hZ, ← hx, ← hy]
    cases t <;> simp [iv] <;> omega
  · obtain rfl : t = !s := by cases s <;> cases t <;> simp_all
    rcases Nat.lt_or_ge (val xs) (val ys) with hlt | hle
    · refine add_diff_lt s A B n m c d xs ys Z w h k hn hm hlt ?_
      rw [← hZ, ← hx, ← hy]
      cases s <;> simp [iv] <;> omega
    · refine add_diff_ge s A B n m c d xs ys Z w h k hn hm hle ?_
      rw [← hZ, ← hx, ← hy]
      cases s <;> simp [iv] <;> omega
theorem sub_int (s t : Bool) (A B : Option Addr) (n m c d : Nat) (z y Z : Int) (w : World) (hZ : z - y = Z) (h : Iz w s A n c z) (k : Iz w t B m d y) (hn : n ≤ 65536) (hm : m ≤ 65536) :
    Calls Try.prog 25 #[.agg #[.bool s, .slice A n c], .agg #[.bool t, .slice B m d]] w (GI w Z) := by
  have h1 := ((h.alloc (EI s A n c)).alloc (EI (!t) B m d)).alloc E0
  have k1 := (((k.alloc (EI s A n c)).alloc (EI (!t) B m d)).alloc E0).neg
  go_enter Try.func25, Try.ntmps25
  go_wp2_with fail
  refine (add_int _ _ _ _ _ _ _ _ _ _ Z _ (by omega) h1 k1 hn hm).mono ?_
  rintro e w1 ⟨s1, A1, n1, c1, rfl, hc, b1⟩
  obtain ⟨hB, ha, hb, hs⟩ := ent3 b1
  have k0_ := hs.cell0
  have k1_ := hs.cell1
  have k2_ := hs.frozen 0
  have k3_ := hs.frozen 1
  go_wp2_with fail
  refine bodyPost_ret (v := .agg #[.bool s1, .slice A1 n1 c1]) (by simp [results, Try.results25, go_sem, (hs.set0 (.bool s1)).cell0, ((hs.set0 (.bool s1)).set1 (.slice A1 n1 c1)).cell1]) rfl (gi_end hB (by omega) hs hc)
end Go.Proofs.Ytefcpcekoihgjaa
