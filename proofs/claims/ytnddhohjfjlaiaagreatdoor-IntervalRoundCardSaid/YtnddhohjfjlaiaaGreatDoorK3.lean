/-
  Dyadic numbers in memory.
-/
import Derived.Test.YtnddhohjfjlaiaaGreatDoorQ0
import Derived.Test.YtnddhohjfjlaiaaGreatDoorK2
namespace Go.Proofs.YtnddhohjfjlaiaaGreatDoor
open Go.RowKit
set_option linter.unusedVariables false
set_option linter.unusedSimpArgs false

/-- A sign, a slice and an exponent read as the number q. -/
def Iy (w : World) (s : Bool) (A : Option Addr) (n c : Nat) (e : Int) (q : Rat) : Prop := ∃ xs, Rd w A n c xs ∧ dvl s (val xs) e = q
/-- .. in the canonical form. -/
def Cy (w : World) (s : Bool) (A : Option Addr) (n c : Nat) (e : Int) (q : Rat) : Prop := Rd w A n c (dg (dm q)) ∧ s = decide (q < 0) ∧ e = de q ∧ Isd q
def GDy (w : World) (q : Rat) (e : Ending) (w' : World) : Prop := ∃ s A n c x, e = .returned (.agg #[.bool s, .slice A n c, .int .i64 x]) ∧ Cy w' s A n c x q ∧ Below w.heap.size w w'
def GDB (w : World) (q : Rat) (b : Bool) (e : Ending) (w' : World) : Prop := ∃ s A n c x, e = .returned (.tuple #[.agg #[.bool s, .slice A n c, .int .i64 x], .bool b]) ∧ Cy w' s A n c x q ∧ Below w.heap.size w w'
def GDE (w : World) (q : Rat) (r : Int) (e : Ending) (w' : World) : Prop := ∃ s A n c x, e = .returned (.tuple #[.agg #[.bool s, .slice A n c, .int .i64 x], .int .i64 r]) ∧ Cy w' s A n c x q ∧ Below w.heap.size w w'
section
variable {w w' : World} {s : Bool} {A : Option Addr} {n c : Nat} {e : Int} {q : Rat}
theorem Cy.iy (h : Cy w s A n c e q) : Iy w s A n c e q := by
  obtain ⟨h1, h2, h3, h4⟩ := h
  exact ⟨_, h1, by rw [val_dg, h2, h3, dvl_of h4]⟩
theorem Cy.below (h : Cy w s A n c e q) (hb : Below w.heap.size w w') : Cy w' s A n c e q := ⟨h.1.below hb, h.2⟩
theorem Iy.below (h : Iy w s A n c e q) (hb : Below w.heap.size w w') : Iy w' s A n c e q := by
  obtain ⟨xs, h1, h2⟩ := h
  exact ⟨xs, h1.below hb, h2⟩
theorem Iy.alloc (h : Iy w s A n c e q) (o : Obj) : Iy (w.alloc o) s A n c e q := h.below ((Below.refl _ _).alloc (Nat.le_refl _) _)
theorem Cy.alloc (h : Cy w s A n c e q) (o : Obj) : Cy (w.alloc o) s A n c e q := h.below ((Below.refl _ _).alloc (Nat.le_refl _) _)
theorem Iy.drew (h : Iy w s A n c e q) : Iy w.drew s A n c e q := h.below (Below.refl _ _).drew
theorem Cy.drew (h : Cy w s A n c e q) : Cy w.drew s A n c e q := h.below (Below.refl _ _).drew
theorem Cy.rd (h : Cy w s A n c e q) : Rd w A n c (dg (dm q)) := h.1
theorem Cy.ln (h : Cy w s A n c e q) {k : Nat} (hq : dm q < pw k) : n ≤ k := by
  have := h.1.len
  have := len_dg_le hq
  omega
theorem cy_zero (w : World) : Cy w false none 0 0 0 0 := ⟨Rd.empty _ _ _, rfl, rfl, rfl⟩
theorem iy_isd (h : Iy w s A n c e q) : Isd q := by
  obtain ⟨xs, h1, rfl⟩ := h
  exact dvl_isd _ _ _
end
/-- A block that holds a dyadic number. -/
def Sy (w : World) (g : Nat) (v0 v1 v2 : Value) : Prop := w.heap[g]? = some (.cells #[v0, v1, v2] 42 (0, 0))
section
variable {w w' : World} {g : Nat} {v0 v1 v2 : Value}
theorem Sy.lt (h : Sy w g v0 v1 v2) : g < w.heap.size := by
  rcases Nat.lt_or_ge g w.heap.size with hb | hb
  · exact hb
  · unfold Sy at h
    rw [Array.getElem?_eq_none hb] at h
    cases h
theorem Sy.new (w : World) (v0 v1 v2 : Value) : Sy (w.alloc (.cells #[v0, v1, v2] 42)) w.heap.size v0 v1 v2 := heap_alloc_new w _
theorem Sy.below {B : Nat} (h : Sy w g v0 v1 v2) (hb : Below B w w') (hg : g < B) : Sy w' g v0 v1 v2 := (hb.block g hg).trans h
theorem Sy.cell0 (h : Sy w g v0 v1 v2) : w.cell? ⟨g, 0, none⟩ = some v0 := cell_of_row w g 0 #[v0, v1, v2] 42 (0, 0) h
theorem Sy.cell1 (h : Sy w g v0 v1 v2) : w.cell? ⟨g, 1, none⟩ = some v1 := cell_of_row w g 1 #[v0, v1, v2] 42 (0, 0) h
theorem Sy.cell2 (h : Sy w g v0 v1 v2) : w.cell? ⟨g, 2, none⟩ = some v2 := cell_of_row w g 2 #[v0, v1, v2] 42 (0, 0) h
theorem Sy.frozen (h : Sy w g v0 v1 v2) (i : Nat) : w.frozen? ⟨g, i, none⟩ = false := by
  unfold Sy at h
  simp [World.frozen?, h]
theorem Sy.drew (h : Sy w g v0 v1 v2) : Sy w.drew g v0 v1 v2 := h
theorem Sy.alloc (h : Sy w g v0 v1 v2) (o : Obj) : Sy (w.alloc o) g v0 v1 v2 := (Below.heap_alloc w o g h.lt).trans h
theorem Sy.far (h : Sy w g v0 v1 v2) {p : Addr} (hp : g ≠ p.block) (u : Value) : Sy (w.setCell p u) g v0 v1 v2 := (Below.heap_setCell w p u g hp).trans h
theorem Sy.set0 (h : Sy w g v0 v1 v2) (u : Value) : Sy (w.setCell ⟨g, 0, none⟩ u) g u v1 v2 := by
  unfold Sy at h ⊢
  simp [World.setCell, Array.getElem?_modify, h]
theorem Sy.set1 (h : Sy w g v0 v1 v2) (u : Value) : Sy (w.setCell ⟨g, 1, none⟩ u) g v0 u v2 := by
  unfold Sy at h ⊢
  simp [World.setCell, Array.getElem?_modify, h]
theorem Sy.set2 (h : Sy w g v0 v1 v2) (u : Value) : Sy (w.setCell ⟨g, 2, none⟩ u) g v0 v1 u := by
  unfold Sy at h ⊢
  simp [World.setCell, Array.getElem?_modify, h]
theorem Rd.awayY {A : Option Addr} {n c : Nat} {xs : List Nat} (h : Rd w A n c xs) {s : Bool} {B : Option Addr} {l d : Nat} {x : Int} (hs : Sy w g (.bool s) (.slice B l d) (.int .i64 x)) : Away A n g := fun hn ad had hg => by
  obtain ⟨b, off, rfl, hb, hc⟩ := h.at_ hn
  obtain rfl := Option.some.inj had
  subst hg
  have h0 := hc 0 hn
  have h1 := cell_of_row w b (off + 0) #[.bool s, .slice B l d, .int .i64 x] 42 (0, 0) hs
  have h2 : (#[.bool s, .slice B l d, .int .i64 x] : Array Value)[off + 0]? = some (.int .u32 (lim xs 0 : Nat)) := h1.symm.trans h0
  rcases off with _ | _ | _ | off <;> simp at h2
theorem Sy.stor {u0 u1 u2 : Value} (h : Sy w g v0 v1 v2) : Sy (((w.setCell ⟨g, 0, none⟩ u0).setCell ⟨g, 1, none⟩ u1).setCell ⟨g, 2, none⟩ u2) g u0 u1 u2 := ((h.set0 u0).set1 u1).set2 u2
theorem Sy.past {g' : Nat} {u0 u1 u2 : Value} (h : Sy w g v0 v1 v2) (hg : g ≠ g') : Sy (((w.setCell ⟨g', 0, none⟩ u0).setCell ⟨g', 1, none⟩ u1).setCell ⟨g', 2, none⟩ u2) g v0 v1 v2 := ((h.far hg u0).far hg u1).far hg u2
theorem Sy.pastI {g' : Nat} {u0 u1 : Value} (h : Sy w g v0 v1 v2) (hg : g ≠ g') : Sy ((w.setCell ⟨g', 0, none⟩ u0).setCell ⟨g', 1, none⟩ u1) g v0 v1 v2 := (h.far hg u0).far hg u1
end
theorem Rd.storY {w : World} {A : Option Addr} {n c : Nat} {xs : List Nat} (h : Rd w A n c xs) {g : Nat} {s0 : Bool} {B : Option Addr} {l d : Nat} {x : Int} (hs : Sy w g (.bool s0) (.slice B l d) (.int .i64 x)) (u0 u1 u2 : Value) :
    Rd (((w.setCell ⟨g, 0, none⟩ u0).setCell ⟨g, 1, none⟩ u1).setCell ⟨g, 2, none⟩ u2) A n c xs := by
  have ha := h.awayY hs
  exact ((h.far ha _ _).far ha _ _).far ha _ _
theorem Cy.storY {w : World} {s : Bool} {A : Option Addr} {n c : Nat} {e : Int} {q : Rat} (h : Cy w s A n c e q) {g : Nat} {s0 : Bool} {B : Option Addr} {l d : Nat} {x : Int} (hs : Sy w g (.bool s0) (.slice B l d) (.int .i64 x)) (u0 u1 u2 : Value) :
    Cy (((w.setCell ⟨g, 0, none⟩ u0).setCell ⟨g, 1, none⟩ u1).setCell ⟨g, 2, none⟩ u2) s A n c e q := ⟨h.1.storY hs _ _ _, h.2⟩
section
variable {w w2 : World} {g : Nat} {s s0 : Bool} {A A0 : Option Addr} {n c n0 c0 : Nat} {x x0 : Int} {q : Rat}
theorem gd_end (hB : Below w.heap.size w w2) (hg : w.heap.size ≤ g) (hs : Sy w2 g (.bool s0) (.slice A0 n0 c0) (.int .i64 x0)) (hc : Cy w2 s A n c x q) :
    GDy w q (.returned (.agg #[.bool s, .slice A n c, .int .i64 x])) (((w2.setCell ⟨g, 0, none⟩ (.bool s)).setCell ⟨g, 1, none⟩ (.slice A n c)).setCell ⟨g, 2, none⟩ (.int .i64 x)) :=
  ⟨_, _, _, _, _, rfl, hc.storY hs _ _ _, below_storQ hB hg⟩
theorem gdb_end (b : Bool) (hB : Below w.heap.size w w2) (hg : w.heap.size ≤ g) (hs : Sy w2 g (.bool s0) (.slice A0 n0 c0) (.int .i64 x0)) (hc : Cy w2 s A n c x q) :
    GDB w q b (.returned (.tuple #[.agg #[.bool s, .slice A n c, .int .i64 x], .bool b])) (((w2.setCell ⟨g, 0, none⟩ (.bool s)).setCell ⟨g, 1, none⟩ (.slice A n c)).setCell ⟨g, 2, none⟩ (.int .i64 x)) :=
  ⟨_, _, _, _, _, rfl, hc.storY hs _ _ _, below_storQ hB hg⟩
theorem gde_end (r : Int) (hB : Below w.heap.size w w2) (hg : w.heap.size ≤ g) (hs : Sy w2 g (.bool s0) (.slice A0 n0 c0) (.int .i64 x0)) (hc : Cy w2 s A n c x q) :
    GDE w q r (.returned (.tuple #[.agg #[.bool s, .slice A n c, .int .i64 x], .int .i64 r])) (((w2.setCell ⟨g, 0, none⟩ (.bool s)).setCell ⟨g, 1, none⟩ (.slice A n c)).setCell ⟨g, 2, none⟩ (.int .i64 x)) :=
  ⟨_, _, _, _, _, rfl, hc.storY hs _ _ _, below_storQ hB hg⟩
end
abbrev EY0 : Obj := .cells #[.bool false, .slice none 0 0, .int .i64 0] 42
abbrev EY (s : Bool) (A : Option Addr) (n c : Nat) (e : Int) : Obj := .cells #[.bool s, .slice A n c, .int .i64 e] 42
end Go.Proofs.YtnddhohjfjlaiaaGreatDoor
