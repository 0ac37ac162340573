/-
  leadingSteps.
-/
import Derived.Test.YtllbncipadjjgaaW26
namespace Go.Proofs.Ytllbncipadjjgaa
open Go.RowKit
set_option linter.unusedVariables false
set_option linter.unusedSimpArgs false

/-- A block that holds cofactors. -/
def Blk5 (w : World) (g : Nat) (a b c d : Nat) (odd : Bool) : Prop := w.heap[g]? = some (.cells #[.int .u64 (a : Int), .int .u64 (b : Int), .int .u64 (c : Int), .int .u64 (d : Int), .bool odd] 65 (0, 0))
section
variable {w : World} {g a b c d : Nat} {odd : Bool}
theorem Blk5.cells (h : Blk5 w g a b c d odd) : w.cell? ⟨g, 0, none⟩ = some (.int .u64 (a : Int)) ∧ w.cell? ⟨g, 1, none⟩ = some (.int .u64 (b : Int)) ∧ w.cell? ⟨g, 2, none⟩ = some (.int .u64 (c : Int)) ∧ w.cell? ⟨g, 3, none⟩ = some (.int .u64 (d : Int)) ∧ w.cell? ⟨g, 4, none⟩ = some (.bool odd) := by
  unfold Blk5 at h
  exact ⟨(cell_of_row w g 0 _ 65 (0, 0) h).trans rfl, (cell_of_row w g 1 _ 65 (0, 0) h).trans rfl, (cell_of_row w g 2 _ 65 (0, 0) h).trans rfl, (cell_of_row w g 3 _ 65 (0, 0) h).trans rfl, (cell_of_row w g 4 _ 65 (0, 0) h).trans rfl⟩
theorem Blk5.lt (h : Blk5 w g a b c d odd) : g < w.heap.size := by
  rcases Nat.lt_or_ge g w.heap.size with hlt | hge
  · exact hlt
  · unfold Blk5 at h; rw [Array.getElem?_eq_none hge] at h; cases h
theorem Blk5.far (h : Blk5 w g a b c d odd) {p : Addr} (hp : g ≠ p.block) (u : Value) : Blk5 (w.setCell p u) g a b c d odd := (Below.heap_setCell w p u g hp).trans h
theorem Blk5.alloc (h : Blk5 w g a b c d odd) (o : Obj) : Blk5 (w.alloc o) g a b c d odd := (Below.heap_alloc w o g h.lt).trans h
theorem Blk5.below {B : Nat} {w' : World} (h : Blk5 w g a b c d odd) (hb : Below B w w') (hg : g < B) : Blk5 w' g a b c d odd := (hb.block g hg).trans h
theorem Blk5.drewN (h : Blk5 w g a b c d odd) (n : Nat) : Blk5 (w.drewN n) g a b c d odd := h
theorem Blk5.put (h : Blk5 w g a b c d odd) {a1 b1 c1 d1 : Nat} {odd1 : Bool} {va vb vc vd : Int} (ha : va = a1) (hb : vb = b1) (hc : vc = c1) (hd : vd = d1) :
    Blk5 (((((w.setCell ⟨g, 0, none⟩ (.int .u64 va)).setCell ⟨g, 1, none⟩ (.int .u64 vb)).setCell ⟨g, 2, none⟩ (.int .u64 vc)).setCell ⟨g, 3, none⟩ (.int .u64 vd)).setCell ⟨g, 4, none⟩ (.bool odd1)) g a1 b1 c1 d1 odd1 := by
  subst ha hb hc hd
  unfold Blk5 at h ⊢
  simp [World.setCell, Array.getElem?_modify, h]
theorem blk5_new (hg : w.heap.size = g) : Blk5 (w.alloc (.cells #[.int .u64 (a : Int), .int .u64 (b : Int), .int .u64 (c : Int), .int .u64 (d : Int), .bool odd] 65)) g a b c d odd := hg ▸ heap_alloc_new w _
theorem Blk5.free (h : Blk5 w g a b c d odd) (i : Nat) : w.frozen? ⟨g, i, none⟩ = false := by
  unfold Blk5 at h
  simp [World.frozen?, h]
end
def Acc (x0 y0 a b c d : Nat) (odd : Bool) : Prop := b = 0 ∨ ∃ x y, Cof x0 y0 a b c d odd x y ∧ d ≤ y ∧ b + d ≤ x - y ∧ 1 ≤ b ∧ a ≤ 4294967295 ∧ b ≤ 4294967295 ∧ c ≤ 4294967295 ∧ d ≤ 4294967295
def LsRel (x0 y0 : Nat) (w : World) (xv yv : Value) (wr : World) : Prop :=
  ∃ (x y a b c d a' b' c' d' : Nat) (odd odd' : Bool), xv = .int .u64 x ∧ yv = .int .u64 y ∧ Below w.heap.size w wr ∧ Blk5 wr w.heap.size 0 0 0 0 false ∧ Blk5 wr (w.heap.size + 1) a b c d odd ∧ Blk5 wr (w.heap.size + 1 + 1) a' b' c' d' odd' ∧
    Cof x0 y0 a b c d odd x y ∧ Acc x0 y0 a' b' c' d' odd'
def LsOut (x0 y0 : Nat) (w : World) (e : Ending) (w' : World) : Prop := ∃ (a b c d : Nat) (odd : Bool), e = .returned (.agg #[.int .u64 (a : Int), .int .u64 (b : Int), .int .u64 (c : Int), .int .u64 (d : Int), .bool odd]) ∧ Acc x0 y0 a b c d odd ∧ Below w.heap.size w w'
set_option maxHeartbeats 1000000 in
theorem ls_calls (x0 y0 : Nat) (w : World) (hx : x0 ≤ 18446744073709551615) (hyx : y0 ≤ x0) :
    Calls Try.prog 61 #[.int .u64 (x0 : Int), .int .u64 (y0 : Int)] w (LsOut x0 y0 w) := by
  go_enter Try.func61, Try.ntmps61
  go_wp2
  go_loopw [0, 1] (fun xv yv wr => LsRel x0 y0 w xv yv wr) (fun _ yv _ => (intOf yv).toNat)
  case atStart =>
    refine ⟨x0, y0, 1, 0, 0, 1, 1, 0, 0, 1, false, false, rfl, rfl, (((Below.refl _ _).alloc (Nat.le_refl _) _).alloc (by simp) _).alloc (by simp; omega) _, ?_, ?_, ?_, cof_start hyx, .inl rfl⟩
    · exact ((blk5_new (a := 0) (b := 0) (c := 0) (d := 0) rfl).alloc _).alloc _
    · exact (blk5_new (a := 1) (b := 0) (c := 0) (d := 1) (by simp)).alloc _
    · exact blk5_new (a := 1) (b := 0) (c := 0) (d := 1) (by simp)
  case round =>
    obtain ⟨x, y, a, b, c, d, a', b', c', d', odd, odd', rfl, rfl, hb, hR, hN, hC, hcof, hacc⟩ := hrel
    obtain ⟨n0, n1, n2, n3, n4⟩ := hN.cells
    obtain ⟨z0, z1, z2, z3, z4⟩ := hC.cells
    have hyx1 := hcof.yx
    have hd1 := hcof.d1
    have hxx : x ≤ 18446744073709551615 := by
      have e0 := hcof.inv0
      have e1 := Nat.le_mul_of_pos_left x hd1
      have e2 := Nat.zero_le (b * y)
      omega
    by_cases c1 : d ≤ y
    · obtain ⟨k1, k2, k3⟩ := cof_word hcof hx (by omega)
      have hd32 := k3 c1
      have hbd := hcof.bd
      have hcd := hcof.cd
      by_cases c2 : b + d ≤ x - y
      · have hy0 : 0 < y := by omega
        have hnew := cof_step hcof hy0
        have hw := cof_word hnew hx hy0
        obtain ⟨q, hq⟩ : ∃ q, q = x / y := ⟨_, rfl⟩
        have hq1 : (x : Int) / (y : Int) = (q : Int) := by rw [hq]; simp
        obtain ⟨r, hr⟩ : ∃ r, r = x % y := ⟨_, rfl⟩
        have hr1 : (x : Int) % (y : Int) = (r : Int) := by rw [hr]; simp
        have hry : r < y := by rw [hr]; exact Nat.mod_lt _ hy0
        rw [← hq, ← hr] at hnew
        rw [← hq] at hw
        obtain ⟨cc, hcc⟩ : ∃ cc, cc = a + q * c := ⟨_, rfl⟩
        obtain ⟨dd, hdd⟩ : ∃ dd, dd = b + q * d := ⟨_, rfl⟩
        rw [← hcc, ← hdd] at hnew
        rw [← hdd] at hw
        have f1 : (a : Int) + (q : Int) * (c : Int) = (cc : Int) := by rw [hcc]; simp
        have f2 : (b : Int) + (q : Int) * (d : Int) = (dd : Int) := by rw [hdd]; simp
        have f3 : (0 : Int) ≤ (q : Int) * (c : Int) := Int.mul_nonneg (by omega) (by omega)
        have f4 : (0 : Int) ≤ (q : Int) * (d : Int) := Int.mul_nonneg (by omega) (by omega)
        have f5 : dd ≤ 18446744073709551615 := hw.1
        have f6 : (q : Int) * (d : Int) ≤ 18446744073709551615 := by omega
        have f8 : cc ≤ 18446744073709551615 := by have := hnew.cd; omega
        have f7 : (q : Int) * (c : Int) ≤ 18446744073709551615 := by omega
        have hy1 : ((y : Int) == 0) = false := by simp; omega
        have g1 : (b : Int) + (d : Int) ≤ (x : Int) - (y : Int) := by omega
        have HN := hide hnew
        have HR1 := hide hr1
        have HCF := hide hcof
        have HAC := hide hacc
        have fN := fun i => hN.free i
        have fC := fun i => hC.free i
        have fN0 := fN 0
        have fN1 := fN 1
        have fN2 := fN 2
        have fN3 := fN 3
        have fN4 := fN 4
        have fC0 := fC 0
        have fC1 := fC 1
        have fC2 := fC 2
        have fC3 := fC 3
        have fC4 := fC 4
        clear hnew hw hq hr hcc hdd hcof hacc fN fC k3
        go_wp2
        go_quiet (fail)
        go_wp2
        have f9 : (q : Int) ≤ (q : Int) * (d : Int) := by
          have h1 := Nat.le_mul_of_pos_right q hd1
          have h2 : ((q * d : Nat) : Int) = (q : Int) * (d : Int) := by simp
          omega
        have e1 : IntKind.u64.wrap (q : Int) = q := IntWalk.u64_in _ (by omega)
        have e2 : IntKind.u64.wrap ((a : Int) + IntKind.u64.wrap (IntKind.u64.wrap (q : Int) * (c : Int))) = (cc : Int) := by
          rw [e1, IntWalk.u64_in ((q : Int) * c) (by omega), f1, IntWalk.u64_in _ (by omega)]
        have e3 : IntKind.u64.wrap ((b : Int) + IntKind.u64.wrap (IntKind.u64.wrap (q : Int) * (d : Int))) = (dd : Int) := by
          rw [e1, IntWalk.u64_in ((q : Int) * d) (by omega), f2, IntWalk.u64_in _ (by omega)]
        refine ⟨⟨y, r, c, d, cc, dd, a, b, c, d, !odd, odd, rfl, by rw [HR1.out], ?_, ?_, ?_, ?_, HN.out, ?_⟩, ?_⟩
        · exact ((((((((((below_drewN hb nq).setCell (by simp; omega) _).setCell (by simp; omega) _).setCell (by simp; omega) _).setCell (by simp; omega) _).setCell (by simp; omega) _).setCell (by simp) _).setCell (by simp) _).setCell (by simp) _).setCell (by simp) _).setCell (by simp) _
        · exact ((((((((((hR.drewN nq).far (by simp; omega) _).far (by simp; omega) _).far (by simp; omega) _).far (by simp; omega) _).far (by simp; omega) _).far (by simp) _).far (by simp) _).far (by simp) _).far (by simp) _).far (by simp) _
        · exact ((((((hN.drewN nq).far (by simp) _).far (by simp) _).far (by simp) _).far (by simp) _).far (by simp) _).put rfl rfl e2 e3
        · exact (((((((hC.drewN nq).put rfl rfl rfl rfl).far (by simp) _).far (by simp) _).far (by simp) _).far (by simp) _).far (by simp) _)
        · rcases Nat.eq_zero_or_pos b with hb0 | hb0
          · exact .inl hb0
          · exact .inr ⟨x, y, HCF.out, c1, c2, hb0, by omega, by omega, by omega, by omega⟩
        · rw [HR1.out]; simp [intOf]; omega
      · have g1 : ¬ (b : Int) + (d : Int) ≤ (x : Int) - (y : Int) := by omega
        obtain ⟨r0, r1, r2, r3, r4⟩ := hR.cells
        have HAC := hide hacc
        have fR0 := hR.free 0
        have fR1 := hR.free 1
        have fR2 := hR.free 2
        have fR3 := hR.free 3
        have fR4 := hR.free 4
        have HR := hide hR
        clear hcof hacc
        go_wp2
        have hb5 := ((((hb.setCell (p := ⟨w.heap.size, 0, none⟩) (by simp) (.int .u64 (a' : Int))).setCell (p := ⟨w.heap.size, 1, none⟩) (by simp) (.int .u64 (b' : Int))).setCell (p := ⟨w.heap.size, 2, none⟩) (by simp) (.int .u64 (c' : Int))).setCell (p := ⟨w.heap.size, 3, none⟩) (by simp) (.int .u64 (d' : Int))).setCell (p := ⟨w.heap.size, 4, none⟩) (by simp) (.bool odd')
        have h5 := HR.out.put (a1 := a') (b1 := b') (c1 := c') (d1 := d') (odd1 := odd') rfl rfl rfl rfl
        generalize (((((wr.setCell ⟨w.heap.size, 0, none⟩ (.int .u64 (a' : Int))).setCell ⟨w.heap.size, 1, none⟩ (.int .u64 (b' : Int))).setCell ⟨w.heap.size, 2, none⟩ (.int .u64 (c' : Int))).setCell ⟨w.heap.size, 3, none⟩ (.int .u64 (d' : Int))).setCell ⟨w.heap.size, 4, none⟩ (.bool odd')) = W5 at hb5 h5 ⊢
        obtain ⟨y0', y1', y2', y3', y4'⟩ := h5.cells
        refine bodyPost_ret (v := .agg #[.int .u64 (a' : Int), .int .u64 (b' : Int), .int .u64 (c' : Int), .int .u64 (d' : Int), .bool odd']) (by simp [results, Try.results61, go_sem, y0', y1', y2', y3', y4']) rfl ⟨a', b', c', d', odd', rfl, HAC.out, ?_⟩
        exact hb5
    · obtain ⟨r0, r1, r2, r3, r4⟩ := hR.cells
      have HAC := hide hacc
      have fR0 := hR.free 0
      have fR1 := hR.free 1
      have fR2 := hR.free 2
      have fR3 := hR.free 3
      have fR4 := hR.free 4
      have HR := hide hR
      clear hcof hacc
      go_wp2
      have hb5 := ((((hb.setCell (p := ⟨w.heap.size, 0, none⟩) (by simp) (.int .u64 (a' : Int))).setCell (p := ⟨w.heap.size, 1, none⟩) (by simp) (.int .u64 (b' : Int))).setCell (p := ⟨w.heap.size, 2, none⟩) (by simp) (.int .u64 (c' : Int))).setCell (p := ⟨w.heap.size, 3, none⟩) (by simp) (.int .u64 (d' : Int))).setCell (p := ⟨w.heap.size, 4, none⟩) (by simp) (.bool odd')
      have h5 := HR.out.put (a1 := a') (b1 := b') (c1 := c') (d1 := d') (odd1 := odd') rfl rfl rfl rfl
      generalize (((((wr.setCell ⟨w.heap.size, 0, none⟩ (.int .u64 (a' : Int))).setCell ⟨w.heap.size, 1, none⟩ (.int .u64 (b' : Int))).setCell ⟨w.heap.size, 2, none⟩ (.int .u64 (c' : Int))).setCell ⟨w.heap.size, 3, none⟩ (.int .u64 (d' : Int))).setCell ⟨w.heap.size, 4, none⟩ (.bool odd')) = W5 at hb5 h5 ⊢
      obtain ⟨y0', y1', y2', y3', y4'⟩ := h5.cells
      refine bodyPost_ret (v := .agg #[.int .u64 (a' : Int), .int .u64 (b' : Int), .int .u64 (c' : Int), .int .u64 (d' : Int), .bool odd']) (by simp [results, Try.results61, go_sem, y0', y1', y2', y3', y4']) rfl ⟨a', b', c', d', odd', rfl, HAC.out, ?_⟩
      exact hb5
end Go.Proofs.Ytllbncipadjjgaa
