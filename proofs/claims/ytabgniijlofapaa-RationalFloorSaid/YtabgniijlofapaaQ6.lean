/-
  The program's span: its block.
-/
import Derived.Test.YtabgniijlofapaaQ3
import Derived.Lib.BufferOwn
namespace Go.Proofs.Ytabgniijlofapaa
open Go.RowKit
set_option linter.unusedVariables false
set_option linter.unusedSimpArgs false

/-- A block that holds a span: two numbers, three cells each. -/
def Sp (w : World) (g : Nat) (v0 v1 v2 v3 v4 v5 : Value) : Prop := w.heap[g]? = some (.cells #[v0, v1, v2, v3, v4, v5] 70 (0, 0))
section
variable {w w' : World} {g : Nat} {v0 v1 v2 v3 v4 v5 : Value}
theorem Sp.lt (h : Sp w g v0 v1 v2 v3 v4 v5) : g < w.heap.size := by
  rcases Nat.lt_or_ge g w.heap.size with hb | hb
  · exact hb
  · unfold Sp at h
    rw [Array.getElem?_eq_none hb] at h
    cases h
theorem Sp.new (w : World) (v0 v1 v2 v3 v4 v5 : Value) : Sp (w.alloc (.cells #[v0, v1, v2, v3, v4, v5] 70)) w.heap.size v0 v1 v2 v3 v4 v5 := heap_alloc_new w _
theorem Sp.below {B : Nat} (h : Sp w g v0 v1 v2 v3 v4 v5) (hb : Below B w w') (hg : g < B) : Sp w' g v0 v1 v2 v3 v4 v5 := (hb.block g hg).trans h
theorem Sp.cell0 (h : Sp w g v0 v1 v2 v3 v4 v5) : w.cell? ⟨g, 0, none⟩ = some v0 := cell_of_row w g 0 #[v0, v1, v2, v3, v4, v5] 70 (0, 0) h
theorem Sp.cell1 (h : Sp w g v0 v1 v2 v3 v4 v5) : w.cell? ⟨g, 1, none⟩ = some v1 := cell_of_row w g 1 #[v0, v1, v2, v3, v4, v5] 70 (0, 0) h
theorem Sp.cell2 (h : Sp w g v0 v1 v2 v3 v4 v5) : w.cell? ⟨g, 2, none⟩ = some v2 := cell_of_row w g 2 #[v0, v1, v2, v3, v4, v5] 70 (0, 0) h
theorem Sp.cell3 (h : Sp w g v0 v1 v2 v3 v4 v5) : w.cell? ⟨g, 3, none⟩ = some v3 := cell_of_row w g 3 #[v0, v1, v2, v3, v4, v5] 70 (0, 0) h
theorem Sp.cell4 (h : Sp w g v0 v1 v2 v3 v4 v5) : w.cell? ⟨g, 4, none⟩ = some v4 := cell_of_row w g 4 #[v0, v1, v2, v3, v4, v5] 70 (0, 0) h
theorem Sp.cell5 (h : Sp w g v0 v1 v2 v3 v4 v5) : w.cell? ⟨g, 5, none⟩ = some v5 := cell_of_row w g 5 #[v0, v1, v2, v3, v4, v5] 70 (0, 0) h
theorem Sp.frozen (h : Sp w g v0 v1 v2 v3 v4 v5) (i : Nat) : w.frozen? ⟨g, i, none⟩ = false := by
  unfold Sp at h
  simp [World.frozen?, h]
theorem Sp.drew (h : Sp w g v0 v1 v2 v3 v4 v5) : Sp w.drew g v0 v1 v2 v3 v4 v5 := h
theorem Sp.alloc (h : Sp w g v0 v1 v2 v3 v4 v5) (o : Obj) : Sp (w.alloc o) g v0 v1 v2 v3 v4 v5 := (Below.heap_alloc w o g h.lt).trans h
theorem Sp.set0 (h : Sp w g v0 v1 v2 v3 v4 v5) (u : Value) : Sp (w.setCell ⟨g, 0, none⟩ u) g u v1 v2 v3 v4 v5 := by
  unfold Sp at h ⊢
  simp [World.setCell, Array.getElem?_modify, h]
theorem Sp.set1 (h : Sp w g v0 v1 v2 v3 v4 v5) (u : Value) : Sp (w.setCell ⟨g, 1, none⟩ u) g v0 u v2 v3 v4 v5 := by
  unfold Sp at h ⊢
  simp [World.setCell, Array.getElem?_modify, h]
theorem Sp.set2 (h : Sp w g v0 v1 v2 v3 v4 v5) (u : Value) : Sp (w.setCell ⟨g, 2, none⟩ u) g v0 v1 u v3 v4 v5 := by
  unfold Sp at h ⊢
  simp [World.setCell, Array.getElem?_modify, h]
theorem Sp.set3 (h : Sp w g v0 v1 v2 v3 v4 v5) (u : Value) : Sp (w.setCell ⟨g, 3, none⟩ u) g v0 v1 v2 u v4 v5 := by
  unfold Sp at h ⊢
  simp [World.setCell, Array.getElem?_modify, h]
theorem Sp.set4 (h : Sp w g v0 v1 v2 v3 v4 v5) (u : Value) : Sp (w.setCell ⟨g, 4, none⟩ u) g v0 v1 v2 v3 u v5 := by
  unfold Sp at h ⊢
  simp [World.setCell, Array.getElem?_modify, h]
theorem Sp.set5 (h : Sp w g v0 v1 v2 v3 v4 v5) (u : Value) : Sp (w.setCell ⟨g, 5, none⟩ u) g v0 v1 v2 v3 v4 u := by
  unfold Sp at h ⊢
  simp [World.setCell, Array.getElem?_modify, h]
theorem Sp.stor {u0 u1 u2 u3 u4 u5 : Value} (h : Sp w g v0 v1 v2 v3 v4 v5) : Sp ((((((w.setCell ⟨g, 0, none⟩ u0).setCell ⟨g, 1, none⟩ u1).setCell ⟨g, 2, none⟩ u2).setCell ⟨g, 3, none⟩ u3).setCell ⟨g, 4, none⟩ u4).setCell ⟨g, 5, none⟩ u5) g u0 u1 u2 u3 u4 u5 := (((((h.set0 u0).set1 u1).set2 u2).set3 u3).set4 u4).set5 u5
end
theorem Rd.awayP {w : World} {g : Nat} {A : Option Addr} {n c : Nat} {xs : List Nat} (h : Rd w A n c xs) {s t : Bool} {B C B' C' : Option Addr} {l d l' d' k e k' e' : Nat} (hs : Sp w g (.bool s) (.slice B l d) (.slice C l' d') (.bool t) (.slice B' k e) (.slice C' k' e')) : Away A n g := fun hn ad had hg => by
  obtain ⟨b, off, rfl, hb, hc⟩ := h.at_ hn
  obtain rfl := Option.some.inj had
  subst hg
  have h0 := hc 0 hn
  have h1 := cell_of_row w b (off + 0) #[.bool s, .slice B l d, .slice C l' d', .bool t, .slice B' k e, .slice C' k' e'] 70 (0, 0) hs
  have h2 : (#[.bool s, .slice B l d, .slice C l' d', .bool t, .slice B' k e, .slice C' k' e'] : Array Value)[off + 0]? = some (.int .u32 (lim xs 0 : Nat)) := h1.symm.trans h0
  rcases off with _ | _ | _ | _ | _ | _ | off <;> simp at h2
end Go.Proofs.Ytabgniijlofapaa
