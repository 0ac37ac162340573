/-
  Four rational numbers in a block.
-/
import Derived.Test.YtnddhohjfjlaiaaGreatDoorVB
namespace Go.Proofs.YtnddhohjfjlaiaaGreatDoor
open Go.RowKit
set_option linter.unusedVariables false
set_option linter.unusedSimpArgs false

/-- A block that holds four rational numbers. -/
def S12 (w : World) (g : Nat) (v0 v1 v2 v3 v4 v5 v6 v7 v8 v9 v10 v11 : Value) : Prop := w.heap[g]? = some (.cells #[v0, v1, v2, v3, v4, v5, v6, v7, v8, v9, v10, v11] 50 (0, 0))
def Sa (w : World) (g : Nat) (a b c d : Rv) : Prop := S12 w g (.bool a.s) (.slice a.A a.n a.c) (.slice a.B a.m a.d) (.bool b.s) (.slice b.A b.n b.c) (.slice b.B b.m b.d) (.bool c.s) (.slice c.A c.n c.c) (.slice c.B c.m c.d) (.bool d.s) (.slice d.A d.n d.c) (.slice d.B d.m d.d)
abbrev EA (a b c d : Rv) : Obj := .cells #[(.bool a.s), (.slice a.A a.n a.c), (.slice a.B a.m a.d), (.bool b.s), (.slice b.A b.n b.c), (.slice b.B b.m b.d), (.bool c.s), (.slice c.A c.n c.c), (.slice c.B c.m c.d), (.bool d.s), (.slice d.A d.n d.c), (.slice d.B d.m d.d)] 50
abbrev EA0 : Obj := .cells #[.bool false, .slice none 0 0, .slice none 0 0, .bool false, .slice none 0 0, .slice none 0 0, .bool false, .slice none 0 0, .slice none 0 0, .bool false, .slice none 0 0, .slice none 0 0] 50
section
variable {w w' : World} {g : Nat} {v0 v1 v2 v3 v4 v5 v6 v7 v8 v9 v10 v11 : Value}
theorem S12.lt (h : S12 w g v0 v1 v2 v3 v4 v5 v6 v7 v8 v9 v10 v11) : g < w.heap.size := by
  rcases Nat.lt_or_ge g w.heap.size with hb | hb
  · exact hb
  · unfold S12 at h
    rw [Array.getElem?_eq_none hb] at h
    cases h
theorem S12.new (w : World) (v0 v1 v2 v3 v4 v5 v6 v7 v8 v9 v10 v11 : Value) : S12 (w.alloc (.cells #[v0, v1, v2, v3, v4, v5, v6, v7, v8, v9, v10, v11] 50)) w.heap.size v0 v1 v2 v3 v4 v5 v6 v7 v8 v9 v10 v11 := heap_alloc_new w _
theorem S12.below {B : Nat} (h : S12 w g v0 v1 v2 v3 v4 v5 v6 v7 v8 v9 v10 v11) (hb : Below B w w') (hg : g < B) : S12 w' g v0 v1 v2 v3 v4 v5 v6 v7 v8 v9 v10 v11 := (hb.block g hg).trans h
theorem S12.alloc (h : S12 w g v0 v1 v2 v3 v4 v5 v6 v7 v8 v9 v10 v11) (o : Obj) : S12 (w.alloc o) g v0 v1 v2 v3 v4 v5 v6 v7 v8 v9 v10 v11 := (Below.heap_alloc w o g h.lt).trans h
theorem S12.drew (h : S12 w g v0 v1 v2 v3 v4 v5 v6 v7 v8 v9 v10 v11) : S12 w.drew g v0 v1 v2 v3 v4 v5 v6 v7 v8 v9 v10 v11 := h
theorem S12.frozen (h : S12 w g v0 v1 v2 v3 v4 v5 v6 v7 v8 v9 v10 v11) (i : Nat) : w.frozen? ⟨g, i, none⟩ = false := by
  unfold S12 at h
  simp [World.frozen?, h]
theorem S12.cell0 (h : S12 w g v0 v1 v2 v3 v4 v5 v6 v7 v8 v9 v10 v11) : w.cell? ⟨g, 0, none⟩ = some v0 := cell_of_row w g 0 #[v0, v1, v2, v3, v4, v5, v6, v7, v8, v9, v10, v11] 50 (0, 0) h
theorem S12.set0 (h : S12 w g v0 v1 v2 v3 v4 v5 v6 v7 v8 v9 v10 v11) (u : Value) : S12 (w.setCell ⟨g, 0, none⟩ u) g u v1 v2 v3 v4 v5 v6 v7 v8 v9 v10 v11 := by
  unfold S12 at h ⊢
  simp [World.setCell, Array.getElem?_modify, h]
theorem S12.cell1 (h : S12 w g v0 v1 v2 v3 v4 v5 v6 v7 v8 v9 v10 v11) : w.cell? ⟨g, 1, none⟩ = some v1 := cell_of_row w g 1 #[v0, v1, v2, v3, v4, v5, v6, v7, v8, v9, v10, v11] 50 (0, 0) h
theorem S12.set1 (h : S12 w g v0 v1 v2 v3 v4 v5 v6 v7 v8 v9 v10 v11) (u : Value) : S12 (w.setCell ⟨g, 1, none⟩ u) g v0 u v2 v3 v4 v5 v6 v7 v8 v9 v10 v11 := by
  unfold S12 at h ⊢
  simp [World.setCell, Array.getElem?_modify, h]
theorem S12.cell2 (h : S12 w g v0 v1 v2 v3 v4 v5 v6 v7 v8 v9 v10 v11) : w.cell? ⟨g, 2, none⟩ = some v2 := cell_of_row w g 2 #[v0, v1, v2, v3, v4, v5, v6, v7, v8, v9, v10, v11] 50 (0, 0) h
theorem S12.set2 (h : S12 w g v0 v1 v2 v3 v4 v5 v6 v7 v8 v9 v10 v11) (u : Value) : S12 (w.setCell ⟨g, 2, none⟩ u) g v0 v1 u v3 v4 v5 v6 v7 v8 v9 v10 v11 := by
  unfold S12 at h ⊢
  simp [World.setCell, Array.getElem?_modify, h]
theorem S12.cell3 (h : S12 w g v0 v1 v2 v3 v4 v5 v6 v7 v8 v9 v10 v11) : w.cell? ⟨g, 3, none⟩ = some v3 := cell_of_row w g 3 #[v0, v1, v2, v3, v4, v5, v6, v7, v8, v9, v10, v11] 50 (0, 0) h
theorem S12.set3 (h : S12 w g v0 v1 v2 v3 v4 v5 v6 v7 v8 v9 v10 v11) (u : Value) : S12 (w.setCell ⟨g, 3, none⟩ u) g v0 v1 v2 u v4 v5 v6 v7 v8 v9 v10 v11 := by
  unfold S12 at h ⊢
  simp [World.setCell, Array.getElem?_modify, h]
theorem S12.cell4 (h : S12 w g v0 v1 v2 v3 v4 v5 v6 v7 v8 v9 v10 v11) : w.cell? ⟨g, 4, none⟩ = some v4 := cell_of_row w g 4 #[v0, v1, v2, v3, v4, v5, v6, v7, v8, v9, v10, v11] 50 (0, 0) h
theorem S12.set4 (h : S12 w g v0 v1 v2 v3 v4 v5 v6 v7 v8 v9 v10 v11) (u : Value) : S12 (w.setCell ⟨g, 4, none⟩ u) g v0 v1 v2 v3 u v5 v6 v7 v8 v9 v10 v11 := by
  unfold S12 at h ⊢
  simp [World.setCell, Array.getElem?_modify, h]
theorem S12.cell5 (h : S12 w g v0 v1 v2 v3 v4 v5 v6 v7 v8 v9 v10 v11) : w.cell? ⟨g, 5, none⟩ = some v5 := cell_of_row w g 5 #[v0, v1, v2, v3, v4, v5, v6, v7, v8, v9, v10, v11] 50 (0, 0) h
theorem S12.set5 (h : S12 w g v0 v1 v2 v3 v4 v5 v6 v7 v8 v9 v10 v11) (u : Value) : S12 (w.setCell ⟨g, 5, none⟩ u) g v0 v1 v2 v3 v4 u v6 v7 v8 v9 v10 v11 := by
  unfold S12 at h ⊢
  simp [World.setCell, Array.getElem?_modify, h]
theorem S12.cell6 (h : S12 w g v0 v1 v2 v3 v4 v5 v6 v7 v8 v9 v10 v11) : w.cell? ⟨g, 6, none⟩ = some v6 := cell_of_row w g 6 #[v0, v1, v2, v3, v4, v5, v6, v7, v8, v9, v10, v11] 50 (0, 0) h
theorem S12.set6 (h : S12 w g v0 v1 v2 v3 v4 v5 v6 v7 v8 v9 v10 v11) (u : Value) : S12 (w.setCell ⟨g, 6, none⟩ u) g v0 v1 v2 v3 v4 v5 u v7 v8 v9 v10 v11 := by
  unfold S12 at h ⊢
  simp [World.setCell, Array.getElem?_modify, h]
theorem S12.cell7 (h : S12 w g v0 v1 v2 v3 v4 v5 v6 v7 v8 v9 v10 v11) : w.cell? ⟨g, 7, none⟩ = some v7 := cell_of_row w g 7 #[v0, v1, v2, v3, v4, v5, v6, v7, v8, v9, v10, v11] 50 (0, 0) h
theorem S12.set7 (h : S12 w g v0 v1 v2 v3 v4 v5 v6 v7 v8 v9 v10 v11) (u : Value) : S12 (w.setCell ⟨g, 7, none⟩ u) g v0 v1 v2 v3 v4 v5 v6 u v8 v9 v10 v11 := by
  unfold S12 at h ⊢
  simp [World.setCell, Array.getElem?_modify, h]
theorem S12.cell8 (h : S12 w g v0 v1 v2 v3 v4 v5 v6 v7 v8 v9 v10 v11) : w.cell? ⟨g, 8, none⟩ = some v8 := cell_of_row w g 8 #[v0, v1, v2, v3, v4, v5, v6, v7, v8, v9, v10, v11] 50 (0, 0) h
theorem S12.set8 (h : S12 w g v0 v1 v2 v3 v4 v5 v6 v7 v8 v9 v10 v11) (u : Value) : S12 (w.setCell ⟨g, 8, none⟩ u) g v0 v1 v2 v3 v4 v5 v6 v7 u v9 v10 v11 := by
  unfold S12 at h ⊢
  simp [World.setCell, Array.getElem?_modify, h]
theorem S12.cell9 (h : S12 w g v0 v1 v2 v3 v4 v5 v6 v7 v8 v9 v10 v11) : w.cell? ⟨g, 9, none⟩ = some v9 := cell_of_row w g 9 #[v0, v1, v2, v3, v4, v5, v6, v7, v8, v9, v10, v11] 50 (0, 0) h
theorem S12.set9 (h : S12 w g v0 v1 v2 v3 v4 v5 v6 v7 v8 v9 v10 v11) (u : Value) : S12 (w.setCell ⟨g, 9, none⟩ u) g v0 v1 v2 v3 v4 v5 v6 v7 v8 u v10 v11 := by
  unfold S12 at h ⊢
  simp [World.setCell, Array.getElem?_modify, h]
theorem S12.cell10 (h : S12 w g v0 v1 v2 v3 v4 v5 v6 v7 v8 v9 v10 v11) : w.cell? ⟨g, 10, none⟩ = some v10 := cell_of_row w g 10 #[v0, v1, v2, v3, v4, v5, v6, v7, v8, v9, v10, v11] 50 (0, 0) h
theorem S12.set10 (h : S12 w g v0 v1 v2 v3 v4 v5 v6 v7 v8 v9 v10 v11) (u : Value) : S12 (w.setCell ⟨g, 10, none⟩ u) g v0 v1 v2 v3 v4 v5 v6 v7 v8 v9 u v11 := by
  unfold S12 at h ⊢
  simp [World.setCell, Array.getElem?_modify, h]
theorem S12.cell11 (h : S12 w g v0 v1 v2 v3 v4 v5 v6 v7 v8 v9 v10 v11) : w.cell? ⟨g, 11, none⟩ = some v11 := cell_of_row w g 11 #[v0, v1, v2, v3, v4, v5, v6, v7, v8, v9, v10, v11] 50 (0, 0) h
theorem S12.set11 (h : S12 w g v0 v1 v2 v3 v4 v5 v6 v7 v8 v9 v10 v11) (u : Value) : S12 (w.setCell ⟨g, 11, none⟩ u) g v0 v1 v2 v3 v4 v5 v6 v7 v8 v9 v10 u := by
  unfold S12 at h ⊢
  simp [World.setCell, Array.getElem?_modify, h]
theorem S12.stor {u0 u1 u2 u3 u4 u5 u6 u7 u8 u9 u10 u11 : Value} (h : S12 w g v0 v1 v2 v3 v4 v5 v6 v7 v8 v9 v10 v11) : S12 ((((((((((((w.setCell ⟨g, 0, none⟩ u0).setCell ⟨g, 1, none⟩ u1).setCell ⟨g, 2, none⟩ u2).setCell ⟨g, 3, none⟩ u3).setCell ⟨g, 4, none⟩ u4).setCell ⟨g, 5, none⟩ u5).setCell ⟨g, 6, none⟩ u6).setCell ⟨g, 7, none⟩ u7).setCell ⟨g, 8, none⟩ u8).setCell ⟨g, 9, none⟩ u9).setCell ⟨g, 10, none⟩ u10).setCell ⟨g, 11, none⟩ u11) g u0 u1 u2 u3 u4 u5 u6 u7 u8 u9 u10 u11 := ((((((((((((h.set0 u0).set1 u1).set2 u2).set3 u3).set4 u4).set5 u5).set6 u6).set7 u7).set8 u8).set9 u9).set10 u10).set11 u11)
theorem S12.away {A : Option Addr} {n c : Nat} {xs : List Nat} {s1 s2 s3 s4 : Bool} {A1 A2 A3 A4 B1 B2 B3 B4 : Option Addr} {n1 n2 n3 n4 c1 c2 c3 c4 m1 m2 m3 m4 d1 d2 d3 d4 : Nat} (hs : S12 w g (.bool s1) (.slice A1 n1 c1) (.slice B1 m1 d1) (.bool s2) (.slice A2 n2 c2) (.slice B2 m2 d2) (.bool s3) (.slice A3 n3 c3) (.slice B3 m3 d3) (.bool s4) (.slice A4 n4 c4) (.slice B4 m4 d4)) (h : Rd w A n c xs) : Away A n g := fun hn ad had hg => by
  obtain ⟨b, off, rfl, hb, hc⟩ := h.at_ hn
  obtain rfl := Option.some.inj had
  subst hg
  have h0 := hc 0 hn
  have h1 := cell_of_row w b (off + 0) #[.bool s1, .slice A1 n1 c1, .slice B1 m1 d1, .bool s2, .slice A2 n2 c2, .slice B2 m2 d2, .bool s3, .slice A3 n3 c3, .slice B3 m3 d3, .bool s4, .slice A4 n4 c4, .slice B4 m4 d4] 50 (0, 0) hs
  have h2 : (#[.bool s1, .slice A1 n1 c1, .slice B1 m1 d1, .bool s2, .slice A2 n2 c2, .slice B2 m2 d2, .bool s3, .slice A3 n3 c3, .slice B3 m3 d3, .bool s4, .slice A4 n4 c4, .slice B4 m4 d4] : Array Value)[off + 0]? = some (.int .u32 (lim xs 0 : Nat)) := h1.symm.trans h0
  rcases off with _ | _ | _ | _ | _ | _ | _ | _ | _ | _ | _ | _ | off <;> simp at h2
end
theorem Rd.twelve {w : World} {A : Option Addr} {n c : Nat} {xs : List Nat} (h : Rd w A n c xs) {g : Nat} (ha : Away A n g) (u0 u1 u2 u3 u4 u5 u6 u7 u8 u9 u10 u11 : Value) : Rd ((((((((((((w.setCell ⟨g, 0, none⟩ u0).setCell ⟨g, 1, none⟩ u1).setCell ⟨g, 2, none⟩ u2).setCell ⟨g, 3, none⟩ u3).setCell ⟨g, 4, none⟩ u4).setCell ⟨g, 5, none⟩ u5).setCell ⟨g, 6, none⟩ u6).setCell ⟨g, 7, none⟩ u7).setCell ⟨g, 8, none⟩ u8).setCell ⟨g, 9, none⟩ u9).setCell ⟨g, 10, none⟩ u10).setCell ⟨g, 11, none⟩ u11) A n c xs := ((((((((((((h.far ha _ _).far ha _ _).far ha _ _).far ha _ _).far ha _ _).far ha _ _).far ha _ _).far ha _ _).far ha _ _).far ha _ _).far ha _ _).far ha _ _)
theorem below_12 {B : Nat} {w w1 : World} {g : Nat} {u0 u1 u2 u3 u4 u5 u6 u7 u8 u9 u10 u11 : Value} (h : Below B w w1) (hg : B ≤ g) : Below B w ((((((((((((w1.setCell ⟨g, 0, none⟩ u0).setCell ⟨g, 1, none⟩ u1).setCell ⟨g, 2, none⟩ u2).setCell ⟨g, 3, none⟩ u3).setCell ⟨g, 4, none⟩ u4).setCell ⟨g, 5, none⟩ u5).setCell ⟨g, 6, none⟩ u6).setCell ⟨g, 7, none⟩ u7).setCell ⟨g, 8, none⟩ u8).setCell ⟨g, 9, none⟩ u9).setCell ⟨g, 10, none⟩ u10).setCell ⟨g, 11, none⟩ u11) := ((((((((((((h.setCell hg _).setCell hg _).setCell hg _).setCell hg _).setCell hg _).setCell hg _).setCell hg _).setCell hg _).setCell hg _).setCell hg _).setCell hg _).setCell hg _)
section
variable {w w' : World} {g g' : Nat} {a b c d x y : Rv} {q : Rat} {u0 u1 u2 u3 u4 u5 u6 u7 u8 u9 u10 u11 : Value}
theorem Sa.lt (h : Sa w g a b c d) : g < w.heap.size := S12.lt h
theorem Sa.below {B : Nat} (h : Sa w g a b c d) (hb : Below B w w') (hg : g < B) : Sa w' g a b c d := S12.below h hb hg
theorem Sa.alloc (h : Sa w g a b c d) (o : Obj) : Sa (w.alloc o) g a b c d := S12.alloc h o
theorem Sa.drew (h : Sa w g a b c d) : Sa w.drew g a b c d := h
theorem Sa.frozen (h : Sa w g a b c d) (i : Nat) : w.frozen? ⟨g, i, none⟩ = false := S12.frozen h i
theorem Sa.cell0 (h : Sa w g a b c d) : w.cell? ⟨g, 0, none⟩ = some (.bool a.s) := S12.cell0 h
theorem Sa.cell1 (h : Sa w g a b c d) : w.cell? ⟨g, 1, none⟩ = some (.slice a.A a.n a.c) := S12.cell1 h
theorem Sa.cell2 (h : Sa w g a b c d) : w.cell? ⟨g, 2, none⟩ = some (.slice a.B a.m a.d) := S12.cell2 h
theorem Sa.cell3 (h : Sa w g a b c d) : w.cell? ⟨g, 3, none⟩ = some (.bool b.s) := S12.cell3 h
theorem Sa.cell4 (h : Sa w g a b c d) : w.cell? ⟨g, 4, none⟩ = some (.slice b.A b.n b.c) := S12.cell4 h
theorem Sa.cell5 (h : Sa w g a b c d) : w.cell? ⟨g, 5, none⟩ = some (.slice b.B b.m b.d) := S12.cell5 h
theorem Sa.cell6 (h : Sa w g a b c d) : w.cell? ⟨g, 6, none⟩ = some (.bool c.s) := S12.cell6 h
theorem Sa.cell7 (h : Sa w g a b c d) : w.cell? ⟨g, 7, none⟩ = some (.slice c.A c.n c.c) := S12.cell7 h
theorem Sa.cell8 (h : Sa w g a b c d) : w.cell? ⟨g, 8, none⟩ = some (.slice c.B c.m c.d) := S12.cell8 h
theorem Sa.cell9 (h : Sa w g a b c d) : w.cell? ⟨g, 9, none⟩ = some (.bool d.s) := S12.cell9 h
theorem Sa.cell10 (h : Sa w g a b c d) : w.cell? ⟨g, 10, none⟩ = some (.slice d.A d.n d.c) := S12.cell10 h
theorem Sa.cell11 (h : Sa w g a b c d) : w.cell? ⟨g, 11, none⟩ = some (.slice d.B d.m d.d) := S12.cell11 h
theorem Su.past12 (h : Su w g x) (hg : g ≠ g') : Su ((((((((((((w.setCell ⟨g', 0, none⟩ u0).setCell ⟨g', 1, none⟩ u1).setCell ⟨g', 2, none⟩ u2).setCell ⟨g', 3, none⟩ u3).setCell ⟨g', 4, none⟩ u4).setCell ⟨g', 5, none⟩ u5).setCell ⟨g', 6, none⟩ u6).setCell ⟨g', 7, none⟩ u7).setCell ⟨g', 8, none⟩ u8).setCell ⟨g', 9, none⟩ u9).setCell ⟨g', 10, none⟩ u10).setCell ⟨g', 11, none⟩ u11) g x := ((((((((((((Sq.far h hg u0).far hg u1).far hg u2).far hg u3).far hg u4).far hg u5).far hg u6).far hg u7).far hg u8).far hg u9).far hg u10).far hg u11)
theorem Sv.past12 (h : Sv w g x y) (hg : g ≠ g') : Sv ((((((((((((w.setCell ⟨g', 0, none⟩ u0).setCell ⟨g', 1, none⟩ u1).setCell ⟨g', 2, none⟩ u2).setCell ⟨g', 3, none⟩ u3).setCell ⟨g', 4, none⟩ u4).setCell ⟨g', 5, none⟩ u5).setCell ⟨g', 6, none⟩ u6).setCell ⟨g', 7, none⟩ u7).setCell ⟨g', 8, none⟩ u8).setCell ⟨g', 9, none⟩ u9).setCell ⟨g', 10, none⟩ u10).setCell ⟨g', 11, none⟩ u11) g x y := ((((((((((((S6.far h hg u0).far hg u1).far hg u2).far hg u3).far hg u4).far hg u5).far hg u6).far hg u7).far hg u8).far hg u9).far hg u10).far hg u11)
theorem Cu.stor12 (h : Cu w a q) {s1 s2 s3 s4 : Bool} {A1 A2 A3 A4 B1 B2 B3 B4 : Option Addr} {n1 n2 n3 n4 c1 c2 c3 c4 m1 m2 m3 m4 d1 d2 d3 d4 : Nat} (hs : S12 w g (.bool s1) (.slice A1 n1 c1) (.slice B1 m1 d1) (.bool s2) (.slice A2 n2 c2) (.slice B2 m2 d2) (.bool s3) (.slice A3 n3 c3) (.slice B3 m3 d3) (.bool s4) (.slice A4 n4 c4) (.slice B4 m4 d4)) (u0 u1 u2 u3 u4 u5 u6 u7 u8 u9 u10 u11 : Value) : Cu ((((((((((((w.setCell ⟨g, 0, none⟩ u0).setCell ⟨g, 1, none⟩ u1).setCell ⟨g, 2, none⟩ u2).setCell ⟨g, 3, none⟩ u3).setCell ⟨g, 4, none⟩ u4).setCell ⟨g, 5, none⟩ u5).setCell ⟨g, 6, none⟩ u6).setCell ⟨g, 7, none⟩ u7).setCell ⟨g, 8, none⟩ u8).setCell ⟨g, 9, none⟩ u9).setCell ⟨g, 10, none⟩ u10).setCell ⟨g, 11, none⟩ u11) a q := ⟨h.1.twelve (S12.away hs h.1) _ _ _ _ _ _ _ _ _ _ _ _, h.2.1.twelve (S12.away hs h.2.1) _ _ _ _ _ _ _ _ _ _ _ _, h.2.2⟩
end
end Go.Proofs.YtnddhohjfjlaiaaGreatDoor
