/-
  Rational numbers and intervals in memory, bundled; what package rational of the specification answers, in this form.
-/
import Derived.Test.YtnddhohjfjlaiaaGreatDoorQ0
namespace Go.Proofs.YtnddhohjfjlaiaaGreatDoor
open Go.RowKit
set_option linter.unusedVariables false
set_option linter.unusedSimpArgs false

/-- A rational number in memory: its sign and its two slices. -/
structure Rv where
  s : Bool
  A : Option Addr
  n : Nat
  c : Nat
  B : Option Addr
  m : Nat
  d : Nat
abbrev Rv.zero : Rv := ⟨false, none, 0, 0, none, 0, 0⟩
abbrev Rv.neg (u : Rv) : Rv := ⟨!u.s, u.A, u.n, u.c, u.B, u.m, u.d⟩
/-- It reads as q; canonically. -/
def Iu (w : World) (u : Rv) (q : Rat) : Prop := Iq w u.s u.A u.n u.c u.B u.m u.d q
def Cu (w : World) (u : Rv) (q : Rat) : Prop := Cq w u.s u.A u.n u.c u.B u.m u.d q
/-- At most k limbs each. -/
def Lu (k : Nat) (u : Rv) : Prop := u.n ≤ k ∧ u.m ≤ k
def GU (w : World) (q : Rat) (e : Ending) (w' : World) : Prop := ∃ u : Rv, e = .returned (.agg #[.bool u.s, .slice u.A u.n u.c, .slice u.B u.m u.d]) ∧ Cu w' u q ∧ Below w.heap.size w w'
def GUE (w : World) (q : Rat) (r : Int) (e : Ending) (w' : World) : Prop := ∃ u : Rv, e = .returned (.tuple #[.agg #[.bool u.s, .slice u.A u.n u.c, .slice u.B u.m u.d], .int .i64 r]) ∧ Cu w' u q ∧ Below w.heap.size w w'
/-- An interval: the numbers at its ends, canonical. -/
def GV (w : World) (p q : Rat) (e : Ending) (w' : World) : Prop := ∃ u v : Rv, e = .returned (.agg #[.bool u.s, .slice u.A u.n u.c, .slice u.B u.m u.d, .bool v.s, .slice v.A v.n v.c, .slice v.B v.m v.d]) ∧ Cu w' u p ∧ Cu w' v q ∧ Below w.heap.size w w'
def GVE (w : World) (p q : Rat) (r : Int) (e : Ending) (w' : World) : Prop := ∃ u v : Rv, e = .returned (.tuple #[.agg #[.bool u.s, .slice u.A u.n u.c, .slice u.B u.m u.d, .bool v.s, .slice v.A v.n v.c, .slice v.B v.m v.d], .int .i64 r]) ∧ Cu w' u p ∧ Cu w' v q ∧ Below w.heap.size w w'
section
variable {w w' : World} {u : Rv} {q : Rat} {k : Nat}
theorem Iu.iq (h : Iu w u q) : Iq w u.s u.A u.n u.c u.B u.m u.d q := h
theorem Cu.cq (h : Cu w u q) : Cq w u.s u.A u.n u.c u.B u.m u.d q := h
theorem Cu.iu (h : Cu w u q) : Iu w u q := Cq.iq h
theorem Iu.below (h : Iu w u q) (hb : Below w.heap.size w w') : Iu w' u q := Iq.below h hb
theorem Cu.below (h : Cu w u q) (hb : Below w.heap.size w w') : Cu w' u q := Cq.below h hb
theorem Iu.alloc (h : Iu w u q) (o : Obj) : Iu (w.alloc o) u q := Iq.alloc h o
theorem Cu.alloc (h : Cu w u q) (o : Obj) : Cu (w.alloc o) u q := Cq.alloc h o
theorem Iu.drew (h : Iu w u q) : Iu w.drew u q := Iq.drew h
theorem Cu.drew (h : Cu w u q) : Cu w.drew u q := Cq.drew h
theorem Cu.len (h : Cu w u q) (hq : Qs k q) : Lu k u := ⟨Cq.ln h hq.1, Cq.ld h hq.2⟩
theorem Lu.mono {j : Nat} (h : Lu k u) (hk : k ≤ j) : Lu j u := ⟨Nat.le_trans h.1 hk, Nat.le_trans h.2 hk⟩
theorem Lu.l1 (h : Lu k u) : u.n ≤ k := h.1
theorem Lu.l2 (h : Lu k u) : u.m ≤ k := h.2
theorem Iu.size (h : Iu w u q) (hl : Lu k u) (hk : 1 ≤ k) : Qs k q := Iq.size h hl.1 hl.2 hk
theorem cu_zero (w : World) : Cu w Rv.zero 0 := cq_zero w
theorem lu_zero (k : Nat) : Lu k Rv.zero := ⟨Nat.zero_le _, Nat.zero_le _⟩
theorem gu_of {e : Ending} (h : GQ w q e w') : GU w q e w' := by
  obtain ⟨s, A, n, c, B, m, d, he, hc, hb⟩ := h
  exact ⟨⟨s, A, n, c, B, m, d⟩, he, hc, hb⟩
theorem gue_of {r : Int} {e : Ending} (h : GQE w q r e w') : GUE w q r e w' := by
  obtain ⟨s, A, n, c, B, m, d, he, hc, hb⟩ := h
  exact ⟨⟨s, A, n, c, B, m, d⟩, he, hc, hb⟩
end
/-- A block that holds a rational number u; an interval u, v. -/
def Su (w : World) (g : Nat) (u : Rv) : Prop := Sq w g (.bool u.s) (.slice u.A u.n u.c) (.slice u.B u.m u.d)
def S6 (w : World) (g : Nat) (v0 v1 v2 v3 v4 v5 : Value) : Prop := w.heap[g]? = some (.cells #[v0, v1, v2, v3, v4, v5] 27 (0, 0))
def Sv (w : World) (g : Nat) (u v : Rv) : Prop := S6 w g (.bool u.s) (.slice u.A u.n u.c) (.slice u.B u.m u.d) (.bool v.s) (.slice v.A v.n v.c) (.slice v.B v.m v.d)
abbrev EU (u : Rv) : Obj := .cells #[(.bool u.s), (.slice u.A u.n u.c), (.slice u.B u.m u.d)] 25
abbrev EV (u v : Rv) : Obj := .cells #[(.bool u.s), (.slice u.A u.n u.c), (.slice u.B u.m u.d), (.bool v.s), (.slice v.A v.n v.c), (.slice v.B v.m v.d)] 27
abbrev EV0 : Obj := .cells #[.bool false, .slice none 0 0, .slice none 0 0, .bool false, .slice none 0 0, .slice none 0 0] 27
section
variable {w w' : World} {g : Nat} {v0 v1 v2 v3 v4 v5 : Value}
theorem S6.lt (h : S6 w g v0 v1 v2 v3 v4 v5) : g < w.heap.size := by
  rcases Nat.lt_or_ge g w.heap.size with hb | hb
  · exact hb
  · unfold S6 at h
    rw [Array.getElem?_eq_none hb] at h
    cases h
theorem S6.new (w : World) (v0 v1 v2 v3 v4 v5 : Value) : S6 (w.alloc (.cells #[v0, v1, v2, v3, v4, v5] 27)) w.heap.size v0 v1 v2 v3 v4 v5 := heap_alloc_new w _
theorem S6.below {B : Nat} (h : S6 w g v0 v1 v2 v3 v4 v5) (hb : Below B w w') (hg : g < B) : S6 w' g v0 v1 v2 v3 v4 v5 := (hb.block g hg).trans h
theorem S6.alloc (h : S6 w g v0 v1 v2 v3 v4 v5) (o : Obj) : S6 (w.alloc o) g v0 v1 v2 v3 v4 v5 := (Below.heap_alloc w o g h.lt).trans h
theorem S6.drew (h : S6 w g v0 v1 v2 v3 v4 v5) : S6 w.drew g v0 v1 v2 v3 v4 v5 := h
theorem S6.far (h : S6 w g v0 v1 v2 v3 v4 v5) {p : Addr} (hp : g ≠ p.block) (u : Value) : S6 (w.setCell p u) g v0 v1 v2 v3 v4 v5 := (Below.heap_setCell w p u g hp).trans h
theorem S6.frozen (h : S6 w g v0 v1 v2 v3 v4 v5) (i : Nat) : w.frozen? ⟨g, i, none⟩ = false := by
  unfold S6 at h
  simp [World.frozen?, h]
theorem S6.cell0 (h : S6 w g v0 v1 v2 v3 v4 v5) : w.cell? ⟨g, 0, none⟩ = some v0 := cell_of_row w g 0 #[v0, v1, v2, v3, v4, v5] 27 (0, 0) h
theorem S6.set0 (h : S6 w g v0 v1 v2 v3 v4 v5) (u : Value) : S6 (w.setCell ⟨g, 0, none⟩ u) g u v1 v2 v3 v4 v5 := by
  unfold S6 at h ⊢
  simp [World.setCell, Array.getElem?_modify, h]
theorem S6.cell1 (h : S6 w g v0 v1 v2 v3 v4 v5) : w.cell? ⟨g, 1, none⟩ = some v1 := cell_of_row w g 1 #[v0, v1, v2, v3, v4, v5] 27 (0, 0) h
theorem S6.set1 (h : S6 w g v0 v1 v2 v3 v4 v5) (u : Value) : S6 (w.setCell ⟨g, 1, none⟩ u) g v0 u v2 v3 v4 v5 := by
  unfold S6 at h ⊢
  simp [World.setCell, Array.getElem?_modify, h]
theorem S6.cell2 (h : S6 w g v0 v1 v2 v3 v4 v5) : w.cell? ⟨g, 2, none⟩ = some v2 := cell_of_row w g 2 #[v0, v1, v2, v3, v4, v5] 27 (0, 0) h
theorem S6.set2 (h : S6 w g v0 v1 v2 v3 v4 v5) (u : Value) : S6 (w.setCell ⟨g, 2, none⟩ u) g v0 v1 u v3 v4 v5 := by
  unfold S6 at h ⊢
  simp [World.setCell, Array.getElem?_modify, h]
theorem S6.cell3 (h : S6 w g v0 v1 v2 v3 v4 v5) : w.cell? ⟨g, 3, none⟩ = some v3 := cell_of_row w g 3 #[v0, v1, v2, v3, v4, v5] 27 (0, 0) h
theorem S6.set3 (h : S6 w g v0 v1 v2 v3 v4 v5) (u : Value) : S6 (w.setCell ⟨g, 3, none⟩ u) g v0 v1 v2 u v4 v5 := by
  unfold S6 at h ⊢
  simp [World.setCell, Array.getElem?_modify, h]
theorem S6.cell4 (h : S6 w g v0 v1 v2 v3 v4 v5) : w.cell? ⟨g, 4, none⟩ = some v4 := cell_of_row w g 4 #[v0, v1, v2, v3, v4, v5] 27 (0, 0) h
theorem S6.set4 (h : S6 w g v0 v1 v2 v3 v4 v5) (u : Value) : S6 (w.setCell ⟨g, 4, none⟩ u) g v0 v1 v2 v3 u v5 := by
  unfold S6 at h ⊢
  simp [World.setCell, Array.getElem?_modify, h]
theorem S6.cell5 (h : S6 w g v0 v1 v2 v3 v4 v5) : w.cell? ⟨g, 5, none⟩ = some v5 := cell_of_row w g 5 #[v0, v1, v2, v3, v4, v5] 27 (0, 0) h
theorem S6.set5 (h : S6 w g v0 v1 v2 v3 v4 v5) (u : Value) : S6 (w.setCell ⟨g, 5, none⟩ u) g v0 v1 v2 v3 v4 u := by
  unfold S6 at h ⊢
  simp [World.setCell, Array.getElem?_modify, h]
theorem S6.stor {u0 u1 u2 u3 u4 u5 : Value} (h : S6 w g v0 v1 v2 v3 v4 v5) : S6 ((((((w.setCell ⟨g, 0, none⟩ u0).setCell ⟨g, 1, none⟩ u1).setCell ⟨g, 2, none⟩ u2).setCell ⟨g, 3, none⟩ u3).setCell ⟨g, 4, none⟩ u4).setCell ⟨g, 5, none⟩ u5) g u0 u1 u2 u3 u4 u5 := (((((h.set0 u0).set1 u1).set2 u2).set3 u3).set4 u4).set5 u5
theorem S6.away6 {A : Option Addr} {n c : Nat} {xs : List Nat} {s t : Bool} {A1 A2 A3 A4 : Option Addr} {n1 n2 n3 n4 c1 c2 c3 c4 : Nat} (hs : S6 w g (.bool s) (.slice A1 n1 c1) (.slice A2 n2 c2) (.bool t) (.slice A3 n3 c3) (.slice A4 n4 c4)) (h : Rd w A n c xs) : Away A n g := fun hn ad had hg => by
  obtain ⟨b, off, rfl, hb, hc⟩ := h.at_ hn
  obtain rfl := Option.some.inj had
  subst hg
  have h0 := hc 0 hn
  have h1 := cell_of_row w b (off + 0) #[.bool s, .slice A1 n1 c1, .slice A2 n2 c2, .bool t, .slice A3 n3 c3, .slice A4 n4 c4] 27 (0, 0) hs
  have h2 : (#[.bool s, .slice A1 n1 c1, .slice A2 n2 c2, .bool t, .slice A3 n3 c3, .slice A4 n4 c4] : Array Value)[off + 0]? = some (.int .u32 (lim xs 0 : Nat)) := h1.symm.trans h0
  rcases off with _ | _ | _ | _ | _ | _ | off <;> simp at h2
end
theorem Rd.six {w : World} {A : Option Addr} {n c : Nat} {xs : List Nat} (h : Rd w A n c xs) {g : Nat} (ha : Away A n g) (u0 u1 u2 u3 u4 u5 : Value) : Rd ((((((w.setCell ⟨g, 0, none⟩ u0).setCell ⟨g, 1, none⟩ u1).setCell ⟨g, 2, none⟩ u2).setCell ⟨g, 3, none⟩ u3).setCell ⟨g, 4, none⟩ u4).setCell ⟨g, 5, none⟩ u5) A n c xs := (((((h.far ha _ _).far ha _ _).far ha _ _).far ha _ _).far ha _ _).far ha _ _
theorem below_six {B : Nat} {w w1 : World} {g : Nat} {u0 u1 u2 u3 u4 u5 : Value} (h : Below B w w1) (hg : B ≤ g) : Below B w ((((((w1.setCell ⟨g, 0, none⟩ u0).setCell ⟨g, 1, none⟩ u1).setCell ⟨g, 2, none⟩ u2).setCell ⟨g, 3, none⟩ u3).setCell ⟨g, 4, none⟩ u4).setCell ⟨g, 5, none⟩ u5) := (((((h.setCell hg _).setCell hg _).setCell hg _).setCell hg _).setCell hg _).setCell hg _
section
variable {w w' : World} {g g' : Nat} {u v a b : Rv} {q : Rat} {u0 u1 u2 u3 u4 u5 : Value}
theorem Su.lt (h : Su w g u) : g < w.heap.size := Sq.lt h
theorem Sv.lt (h : Sv w g u v) : g < w.heap.size := S6.lt h
theorem Su.new (w : World) (u : Rv) : Su (w.alloc (EU u)) w.heap.size u := Sq.new w _ _ _
theorem Sv.new (w : World) (u v : Rv) : Sv (w.alloc (EV u v)) w.heap.size u v := S6.new w _ _ _ _ _ _
theorem Su.below {B : Nat} (h : Su w g u) (hb : Below B w w') (hg : g < B) : Su w' g u := Sq.below h hb hg
theorem Sv.below {B : Nat} (h : Sv w g u v) (hb : Below B w w') (hg : g < B) : Sv w' g u v := S6.below h hb hg
theorem Su.alloc (h : Su w g u) (o : Obj) : Su (w.alloc o) g u := Sq.alloc h o
theorem Sv.alloc (h : Sv w g u v) (o : Obj) : Sv (w.alloc o) g u v := S6.alloc h o
theorem Su.drew (h : Su w g u) : Su w.drew g u := h
theorem Sv.drew (h : Sv w g u v) : Sv w.drew g u v := h
theorem Su.frozen (h : Su w g u) (i : Nat) : w.frozen? ⟨g, i, none⟩ = false := Sq.frozen h i
theorem Sv.frozen (h : Sv w g u v) (i : Nat) : w.frozen? ⟨g, i, none⟩ = false := S6.frozen h i
theorem Su.cell0 (h : Su w g u) : w.cell? ⟨g, 0, none⟩ = some (.bool u.s) := Sq.cell0 h
theorem Su.cell1 (h : Su w g u) : w.cell? ⟨g, 1, none⟩ = some (.slice u.A u.n u.c) := Sq.cell1 h
theorem Su.cell2 (h : Su w g u) : w.cell? ⟨g, 2, none⟩ = some (.slice u.B u.m u.d) := Sq.cell2 h
theorem Sv.cell0 (h : Sv w g u v) : w.cell? ⟨g, 0, none⟩ = some (.bool u.s) := S6.cell0 h
theorem Sv.cell1 (h : Sv w g u v) : w.cell? ⟨g, 1, none⟩ = some (.slice u.A u.n u.c) := S6.cell1 h
theorem Sv.cell2 (h : Sv w g u v) : w.cell? ⟨g, 2, none⟩ = some (.slice u.B u.m u.d) := S6.cell2 h
theorem Sv.cell3 (h : Sv w g u v) : w.cell? ⟨g, 3, none⟩ = some (.bool v.s) := S6.cell3 h
theorem Sv.cell4 (h : Sv w g u v) : w.cell? ⟨g, 4, none⟩ = some (.slice v.A v.n v.c) := S6.cell4 h
theorem Sv.cell5 (h : Sv w g u v) : w.cell? ⟨g, 5, none⟩ = some (.slice v.B v.m v.d) := S6.cell5 h
theorem Su.stor (h : Su w g u) (a : Rv) : Su (((w.setCell ⟨g, 0, none⟩ (.bool a.s)).setCell ⟨g, 1, none⟩ (.slice a.A a.n a.c)).setCell ⟨g, 2, none⟩ (.slice a.B a.m a.d)) g a := Sq.stor h
theorem Sv.stor (h : Sv w g u v) (a b : Rv) : Sv ((((((w.setCell ⟨g, 0, none⟩ (.bool a.s)).setCell ⟨g, 1, none⟩ (.slice a.A a.n a.c)).setCell ⟨g, 2, none⟩ (.slice a.B a.m a.d)).setCell ⟨g, 3, none⟩ (.bool b.s)).setCell ⟨g, 4, none⟩ (.slice b.A b.n b.c)).setCell ⟨g, 5, none⟩ (.slice b.B b.m b.d)) g a b := S6.stor h
theorem Su.past3 (h : Su w g u) (hg : g ≠ g') : Su (((w.setCell ⟨g', 0, none⟩ u0).setCell ⟨g', 1, none⟩ u1).setCell ⟨g', 2, none⟩ u2) g u := Sq.past h hg
theorem Su.past6 (h : Su w g u) (hg : g ≠ g') : Su ((((((w.setCell ⟨g', 0, none⟩ u0).setCell ⟨g', 1, none⟩ u1).setCell ⟨g', 2, none⟩ u2).setCell ⟨g', 3, none⟩ u3).setCell ⟨g', 4, none⟩ u4).setCell ⟨g', 5, none⟩ u5) g u := (((((Sq.far h hg u0).far hg u1).far hg u2).far hg u3).far hg u4).far hg u5
theorem Sv.past3 (h : Sv w g u v) (hg : g ≠ g') : Sv (((w.setCell ⟨g', 0, none⟩ u0).setCell ⟨g', 1, none⟩ u1).setCell ⟨g', 2, none⟩ u2) g u v := ((S6.far h hg u0).far hg u1).far hg u2
theorem Sv.past6 (h : Sv w g u v) (hg : g ≠ g') : Sv ((((((w.setCell ⟨g', 0, none⟩ u0).setCell ⟨g', 1, none⟩ u1).setCell ⟨g', 2, none⟩ u2).setCell ⟨g', 3, none⟩ u3).setCell ⟨g', 4, none⟩ u4).setCell ⟨g', 5, none⟩ u5) g u v := (((((S6.far h hg u0).far hg u1).far hg u2).far hg u3).far hg u4).far hg u5
theorem Cu.storU (h : Cu w a q) (hs : Su w g u) (u0 u1 u2 : Value) : Cu (((w.setCell ⟨g, 0, none⟩ u0).setCell ⟨g, 1, none⟩ u1).setCell ⟨g, 2, none⟩ u2) a q := ⟨h.1.storQ hs _ _ _, h.2.1.storQ hs _ _ _, h.2.2⟩
theorem Cu.storV (h : Cu w a q) (hs : Sv w g u v) (u0 u1 u2 u3 u4 u5 : Value) : Cu ((((((w.setCell ⟨g, 0, none⟩ u0).setCell ⟨g, 1, none⟩ u1).setCell ⟨g, 2, none⟩ u2).setCell ⟨g, 3, none⟩ u3).setCell ⟨g, 4, none⟩ u4).setCell ⟨g, 5, none⟩ u5) a q := ⟨h.1.six (S6.away6 hs h.1) _ _ _ _ _ _, h.2.1.six (S6.away6 hs h.2.1) _ _ _ _ _ _, h.2.2⟩
theorem Iu.storU (h : Iu w a q) (hs : Su w g u) (u0 u1 u2 : Value) : Iu (((w.setCell ⟨g, 0, none⟩ u0).setCell ⟨g, 1, none⟩ u1).setCell ⟨g, 2, none⟩ u2) a q := by
  obtain ⟨xs, ys, h1, h2, h3⟩ := h
  exact ⟨xs, ys, h1.storQ hs _ _ _, h2.storQ hs _ _ _, h3⟩
theorem Iu.storV (h : Iu w a q) (hs : Sv w g u v) (u0 u1 u2 u3 u4 u5 : Value) : Iu ((((((w.setCell ⟨g, 0, none⟩ u0).setCell ⟨g, 1, none⟩ u1).setCell ⟨g, 2, none⟩ u2).setCell ⟨g, 3, none⟩ u3).setCell ⟨g, 4, none⟩ u4).setCell ⟨g, 5, none⟩ u5) a q := by
  obtain ⟨xs, ys, h1, h2, h3⟩ := h
  exact ⟨xs, ys, h1.six (S6.away6 hs h1) _ _ _ _ _ _, h2.six (S6.away6 hs h2) _ _ _ _ _ _, h3⟩
end
section
variable {w w2 : World} {g : Nat} {u v a b : Rv} {p q : Rat}
theorem gv_end (hB : Below w.heap.size w w2) (hg : w.heap.size ≤ g) (hs : Sv w2 g u v) (h1 : Cu w2 a p) (h2 : Cu w2 b q) :
    GV w p q (.returned (.agg #[(.bool a.s), (.slice a.A a.n a.c), (.slice a.B a.m a.d), (.bool b.s), (.slice b.A b.n b.c), (.slice b.B b.m b.d)])) ((((((w2.setCell ⟨g, 0, none⟩ (.bool a.s)).setCell ⟨g, 1, none⟩ (.slice a.A a.n a.c)).setCell ⟨g, 2, none⟩ (.slice a.B a.m a.d)).setCell ⟨g, 3, none⟩ (.bool b.s)).setCell ⟨g, 4, none⟩ (.slice b.A b.n b.c)).setCell ⟨g, 5, none⟩ (.slice b.B b.m b.d)) :=
  ⟨a, b, rfl, h1.storV hs _ _ _ _ _ _, h2.storV hs _ _ _ _ _ _, below_six hB hg⟩
theorem gve_end (r : Int) (hB : Below w.heap.size w w2) (hg : w.heap.size ≤ g) (hs : Sv w2 g u v) (h1 : Cu w2 a p) (h2 : Cu w2 b q) :
    GVE w p q r (.returned (.tuple #[.agg #[(.bool a.s), (.slice a.A a.n a.c), (.slice a.B a.m a.d), (.bool b.s), (.slice b.A b.n b.c), (.slice b.B b.m b.d)], .int .i64 r])) ((((((w2.setCell ⟨g, 0, none⟩ (.bool a.s)).setCell ⟨g, 1, none⟩ (.slice a.A a.n a.c)).setCell ⟨g, 2, none⟩ (.slice a.B a.m a.d)).setCell ⟨g, 3, none⟩ (.bool b.s)).setCell ⟨g, 4, none⟩ (.slice b.A b.n b.c)).setCell ⟨g, 5, none⟩ (.slice b.B b.m b.d)) :=
  ⟨a, b, rfl, h1.storV hs _ _ _ _ _ _, h2.storV hs _ _ _ _ _ _, below_six hB hg⟩
theorem gu_end (hB : Below w.heap.size w w2) (hg : w.heap.size ≤ g) (hs : Su w2 g u) (h1 : Cu w2 a p) :
    GU w p (.returned (.agg #[(.bool a.s), (.slice a.A a.n a.c), (.slice a.B a.m a.d)])) (((w2.setCell ⟨g, 0, none⟩ (.bool a.s)).setCell ⟨g, 1, none⟩ (.slice a.A a.n a.c)).setCell ⟨g, 2, none⟩ (.slice a.B a.m a.d)) :=
  ⟨a, rfl, h1.storU hs _ _ _, below_storQ hB hg⟩
theorem GV.more {w' : World} {e : Ending} (h : GV w p q e w') (o : Obj) : GV w p q e (w'.alloc o) := by
  obtain ⟨u, v, he, h1, h2, hb⟩ := h
  exact ⟨u, v, he, h1.alloc o, h2.alloc o, hb.alloc hb.size o⟩
theorem GVE.more {w' : World} {r : Int} {e : Ending} (h : GVE w p q r e w') (o : Obj) : GVE w p q r e (w'.alloc o) := by
  obtain ⟨u, v, he, h1, h2, hb⟩ := h
  exact ⟨u, v, he, h1.alloc o, h2.alloc o, hb.alloc hb.size o⟩
theorem GU.more {w' : World} {e : Ending} (h : GU w p e w') (o : Obj) : GU w p e (w'.alloc o) := by
  obtain ⟨u, he, h1, hb⟩ := h
  exact ⟨u, he, h1.alloc o, hb.alloc hb.size o⟩
end
theorem add_u (u v : Rv) (p q r : Rat) (w : World) (hr : p + q = r) (h : Iu w u p) (k : Iu w v q) (hu : Lu 4000 u) (hv : Lu 4000 v) : Calls Tryz.prog 73 #[.agg #[.bool u.s, .slice u.A u.n u.c, .slice u.B u.m u.d], .agg #[.bool v.s, .slice v.A v.n v.c, .slice v.B v.m v.d]] w (GU w r) :=
  (radd_q _ _ _ _ _ _ _ _ _ _ _ _ _ _ p q r w hr h k hu.1 hu.2 hv.1 hv.2).mono fun _ _ => gu_of
theorem sub_u (u v : Rv) (p q r : Rat) (w : World) (hr : p - q = r) (h : Iu w u p) (k : Iu w v q) (hu : Lu 4000 u) (hv : Lu 4000 v) : Calls Tryz.prog 47 #[.agg #[.bool u.s, .slice u.A u.n u.c, .slice u.B u.m u.d], .agg #[.bool v.s, .slice v.A v.n v.c, .slice v.B v.m v.d]] w (GU w r) :=
  (rsub_q _ _ _ _ _ _ _ _ _ _ _ _ _ _ p q r w hr h k hu.1 hu.2 hv.1 hv.2).mono fun _ _ => gu_of
theorem mn_of (p q : Rat) : (if p ≤ q then p else q) = min p q := (Rat.min_def).symm
theorem mx_of (p q : Rat) : (if q ≤ p then p else q) = max p q := by
  rw [Rat.max_def]
  split <;> split <;> grind
theorem cmp_u (u v : Rv) (p q : Rat) (r : Int) (w : World) (hr : sz (p - q).num = r) (h : Iu w u p) (k : Iu w v q) (hu : Lu 4000 u) (hv : Lu 4000 v) : Calls Tryz.prog 30 #[.agg #[.bool u.s, .slice u.A u.n u.c, .slice u.B u.m u.d], .agg #[.bool v.s, .slice v.A v.n v.c, .slice v.B v.m v.d]] w (Asks w (.int .i64 r)) :=
  rcmp_q _ _ _ _ _ _ _ _ _ _ _ _ _ _ p q r w hr h k hu.1 hu.2 hv.1 hv.2
theorem neg_u (u : Rv) (p r : Rat) (w : World) (hr : -p = r) (h : Iu w u p) (hu : Lu 4000 u) : Calls Tryz.prog 74 #[.agg #[.bool u.s, .slice u.A u.n u.c, .slice u.B u.m u.d]] w (GU w r) := by
  subst hr
  exact (rneg_q _ _ _ _ _ _ _ p w h (by have := hu.1; omega) (by have := hu.2; omega)).mono fun _ _ => gu_of
theorem canon_u (u : Rv) (p : Rat) (w : World) (h : Iu w u p) (hu : Lu 4000 u) : Calls Tryz.prog 37 #[.agg #[.bool u.s, .slice u.A u.n u.c, .slice u.B u.m u.d]] w (GU w p) :=
  (rcanon_q _ _ _ _ _ _ _ p w h (by have := hu.1; omega) (by have := hu.2; omega)).mono fun _ _ => gu_of
theorem same_u (u v : Rv) (p : Rat) (w : World) (h : Cu w u p) (k : Cu w v p) (hu : Lu 4000 u) : Calls Tryz.prog 23 #[.agg #[.bool u.s, .slice u.A u.n u.c, .slice u.B u.m u.d], .agg #[.bool v.s, .slice v.A v.n v.c, .slice v.B v.m v.d]] w (Asks w (.bool true)) :=
  same_q _ _ _ _ _ _ _ _ _ _ _ _ _ _ p w h k (by have := hu.1; omega) (by have := hu.2; omega)
theorem of_u (x : Int) (p : Rat) (w : World) (hp : (x : Rat) = p) (h : -9223372036854775808 ≤ x ∧ x ≤ 9223372036854775807) : Calls Tryz.prog 27 #[.int .i64 x] w (GU w p) := by
  subst hp
  exact (rof_q x w h.1 h.2).mono fun _ _ => gu_of
end Go.Proofs.YtnddhohjfjlaiaaGreatDoor
