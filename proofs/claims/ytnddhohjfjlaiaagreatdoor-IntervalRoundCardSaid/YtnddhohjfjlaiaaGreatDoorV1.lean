/-
  short, of; validity of a rational number.
-/
import Derived.Test.YtnddhohjfjlaiaaGreatDoorV0
namespace Go.Proofs.YtnddhohjfjlaiaaGreatDoor
open Go.RowKit
set_option linter.unusedVariables false
set_option linter.unusedSimpArgs false

/-- Two lists behind a number; canonical or not. -/
def Rx (w : World) (u : Rv) (xs ys : List Nat) : Prop := Rd w u.A u.n u.c xs ∧ Rd w u.B u.m u.d ys
def isC (s : Bool) (xs ys : List Nat) : Bool := (s == decide ((rv s xs ys).num < 0)) && decide (xs = dg (rv s xs ys).num.natAbs) && decide (ys = qd (rv s xs ys))
section
variable {w w' : World} {u : Rv} {xs ys : List Nat}
theorem Rx.below (h : Rx w u xs ys) (hb : Below w.heap.size w w') : Rx w' u xs ys := ⟨h.1.below hb, h.2.below hb⟩
theorem Rx.alloc (h : Rx w u xs ys) (o : Obj) : Rx (w.alloc o) u xs ys := h.below ((Below.refl _ _).alloc (Nat.le_refl _) _)
theorem Rx.drew (h : Rx w u xs ys) : Rx w.drew u xs ys := h.below (Below.refl _ _).drew
theorem Rx.iu (h : Rx w u xs ys) : Iu w u (rv u.s xs ys) := ⟨xs, ys, h.1, h.2, rfl⟩
theorem Rx.cu (h : Rx w u xs ys) (hc : isC u.s xs ys = true) : Cu w u (rv u.s xs ys) := by
  unfold isC at hc
  simp only [Bool.and_eq_true, beq_iff_eq, decide_eq_true_eq] at hc
  obtain ⟨⟨h1, h2⟩, h3⟩ := hc
  refine ⟨?_, ?_, h1⟩
  · rw [← h2]; exact h.1
  · rw [← h3]; exact h.2
end
theorem valid_u (u : Rv) (xs ys : List Nat) (r : Bool) (w : World) (hr : isC u.s xs ys = r) (h : Rx w u xs ys) (hl : Lu 4000 u) : Calls Tryz.prog 29 #[.agg #[.bool u.s, .slice u.A u.n u.c, .slice u.B u.m u.d]] w (Asks w (.bool r)) := by
  have hq : Qs 4000 (rv u.s xs ys) := h.iu.size hl (by decide)
  exact rvalid_q _ _ _ _ _ _ _ xs ys _ r w hr rfl h.1 h.2 (by have := hl.1; omega) (by have := hl.2; omega) 4000 (by decide) hq.1 hq.2
theorem le_sz {a b : Rat} (h : a ≤ b) : sz (a - b).num ≤ 0 := cmp_le.2 h
theorem sz_dec (a b : Rat) : decide (sz (a - b).num ≤ 0) = decide (a ≤ b) := decide_eq_decide.2 cmp_le
theorem sz_gt (a b : Rat) : decide (0 < sz (a - b).num) = !decide (a ≤ b) := by
  have h := cmp_le (p := a) (q := b)
  by_cases h0 : a ≤ b
  · rw [decide_eq_true h0]
    have := h.2 h0
    simp
    omega
  · rw [decide_eq_false h0]
    have : ¬ sz (a - b).num ≤ 0 := fun hh => h0 (h.1 hh)
    simp
    omega
theorem short_yes (u : Rv) (w : World) (h : Lu 2 u) : Calls Tryz.prog 15 #[.agg #[.bool u.s, .slice u.A u.n u.c, .slice u.B u.m u.d]] w (Asks w (.bool true)) := by
  have d1 : decide ((u.n : Int) ≤ 2) = true := by have := h.1; simp; omega
  have d2 : decide ((u.m : Int) ≤ 2) = true := by have := h.2; simp; omega
  clear h
  have bx_1 : Su ((w).alloc (EU u)) (w.heap.size) u := by have h_ := Su.new (w) u; exact h_
  have F1 := (Below.refl w.heap.size w).alloc (Nat.le_refl _) (EU u)
  go_enter Tryz.func15, Tryz.ntmps15
  have bx_u1 := bx_1.cell0
  have bx_v1 := bx_1.cell1
  have bx_w1 := bx_1.cell2
  go_wp2
  go_ret
  exact ⟨rfl, F1⟩
theorem short_no (u : Rv) (w : World) (h : ¬ Lu 2 u) : Calls Tryz.prog 15 #[.agg #[.bool u.s, .slice u.A u.n u.c, .slice u.B u.m u.d]] w (Asks w (.bool false)) := by
  by_cases hn : u.n ≤ 2
  · have d1 : decide ((u.n : Int) ≤ 2) = true := by simp; omega
    have d2 : decide ((u.m : Int) ≤ 2) = false := by
      have : ¬ u.m ≤ 2 := fun hm => h ⟨hn, hm⟩
      simp
      omega
    clear h
    have bx_1 : Su ((w).alloc (EU u)) (w.heap.size) u := by have h_ := Su.new (w) u; exact h_
    have F1 := (Below.refl w.heap.size w).alloc (Nat.le_refl _) (EU u)
    go_enter Tryz.func15, Tryz.ntmps15
    have bx_u1 := bx_1.cell0
    have bx_v1 := bx_1.cell1
    have bx_w1 := bx_1.cell2
    go_wp2
    go_ret
    exact ⟨rfl, F1⟩
  · have d1 : decide ((u.n : Int) ≤ 2) = false := by simp; omega
    clear h
    have bx_1 : Su ((w).alloc (EU u)) (w.heap.size) u := by have h_ := Su.new (w) u; exact h_
    have F1 := (Below.refl w.heap.size w).alloc (Nat.le_refl _) (EU u)
    go_enter Tryz.func15, Tryz.ntmps15
    have bx_u1 := bx_1.cell0
    have bx_v1 := bx_1.cell1
    have bx_w1 := bx_1.cell2
    go_wp2
    go_ret
    exact ⟨rfl, F1⟩
theorem of_iv (x y : Int) (p q : Rat) (w : World) (hp : (x : Rat) = p) (hq : (y : Rat) = q) (hx : -9223372036854775808 ≤ x ∧ x ≤ 9223372036854775807) (hy : -9223372036854775808 ≤ y ∧ y ≤ 9223372036854775807) : Calls Tryz.prog 11 #[.int .i64 x, .int .i64 y] w (GV w p q) := by
  have HP := hide hp
  have HQ := hide hq
  have HX := hide hx
  have HY := hide hy
  clear hp hq hx hy
  have br_1 : Sv ((w).alloc EV0) (w.heap.size) Rv.zero Rv.zero := by have h_ := Sv.new (w) Rv.zero Rv.zero; exact h_
  have F1 := (Below.refl w.heap.size w).alloc (Nat.le_refl _) EV0
  go_enter Tryz.func11, Tryz.ntmps11
  have br_u1 : ((w).alloc EV0).cell? ⟨w.heap.size, 0, none⟩ = some (.bool false) := br_1.cell0
  have br_v1 : ((w).alloc EV0).cell? ⟨w.heap.size, 1, none⟩ = some (.slice none 0 0) := br_1.cell1
  have br_w1 : ((w).alloc EV0).cell? ⟨w.heap.size, 2, none⟩ = some (.slice none 0 0) := br_1.cell2
  have br_x1 : ((w).alloc EV0).cell? ⟨w.heap.size, 3, none⟩ = some (.bool false) := br_1.cell3
  have br_y1 : ((w).alloc EV0).cell? ⟨w.heap.size, 4, none⟩ = some (.slice none 0 0) := br_1.cell4
  have br_z1 : ((w).alloc EV0).cell? ⟨w.heap.size, 5, none⟩ = some (.slice none 0 0) := br_1.cell5
  go_wp2_with fail
  refine (of_u x p _ HP.out HX.out).mono ?_
  rintro e w2 ⟨u2, rfl, a, b2⟩
  have br_2 := br_1.below b2 br_1.lt
  have F2 := below_then F1 (Nat.le_refl _) b2
  have br_u2 : (w2).cell? ⟨w.heap.size, 0, none⟩ = some (.bool false) := br_2.cell0
  have br_v2 : (w2).cell? ⟨w.heap.size, 1, none⟩ = some (.slice none 0 0) := br_2.cell1
  have br_w2 : (w2).cell? ⟨w.heap.size, 2, none⟩ = some (.slice none 0 0) := br_2.cell2
  have br_x2 : (w2).cell? ⟨w.heap.size, 3, none⟩ = some (.bool false) := br_2.cell3
  have br_y2 : (w2).cell? ⟨w.heap.size, 4, none⟩ = some (.slice none 0 0) := br_2.cell4
  have br_z2 : (w2).cell? ⟨w.heap.size, 5, none⟩ = some (.slice none 0 0) := br_2.cell5
  go_wp2_with fail
  refine (of_u y q _ HQ.out HY.out).mono ?_
  rintro e w3 ⟨u3, rfl, c, b3⟩
  have a_3 := a.below b3
  have br_3 := br_2.below b3 br_2.lt
  have F3 := below_then F2 (Nat.le_refl _) b3
  have br_u3 : (w3).cell? ⟨w.heap.size, 0, none⟩ = some (.bool false) := br_3.cell0
  have br_v3 : (w3).cell? ⟨w.heap.size, 1, none⟩ = some (.slice none 0 0) := br_3.cell1
  have br_w3 : (w3).cell? ⟨w.heap.size, 2, none⟩ = some (.slice none 0 0) := br_3.cell2
  have br_x3 : (w3).cell? ⟨w.heap.size, 3, none⟩ = some (.bool false) := br_3.cell3
  have br_y3 : (w3).cell? ⟨w.heap.size, 4, none⟩ = some (.slice none 0 0) := br_3.cell4
  have br_z3 : (w3).cell? ⟨w.heap.size, 5, none⟩ = some (.slice none 0 0) := br_3.cell5
  have br_f03 := br_3.frozen 0
  have br_f13 := br_3.frozen 1
  have br_f23 := br_3.frozen 2
  have br_f33 := br_3.frozen 3
  have br_f43 := br_3.frozen 4
  have br_f53 := br_3.frozen 5
  go_wp2_with fail
  refine bodyPost_ret (v := .agg #[.bool u2.s, .slice u2.A u2.n u2.c, .slice u2.B u2.m u2.d, .bool u3.s, .slice u3.A u3.n u3.c, .slice u3.B u3.m u3.d]) (by simp [results, Tryz.results11, go_sem, (Sv.stor br_3 u2 u3).cell0, (Sv.stor br_3 u2 u3).cell1, (Sv.stor br_3 u2 u3).cell2, (Sv.stor br_3 u2 u3).cell3, (Sv.stor br_3 u2 u3).cell4, (Sv.stor br_3 u2 u3).cell5]) rfl (gv_end F3 (by omega) br_3 a_3 c)
end Go.Proofs.YtnddhohjfjlaiaaGreatDoor
