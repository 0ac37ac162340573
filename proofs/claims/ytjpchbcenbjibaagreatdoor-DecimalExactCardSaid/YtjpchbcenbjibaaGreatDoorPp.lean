/-
  The parser: skip, digits, end, fail.
-/
import Derived.Test.YtjpchbcenbjibaaGreatDoorM1
import Derived.Test.YtjpchbcenbjibaaGreatDoorB0
import Derived.Test.YtjpchbcenbjibaaGreatDoorT0
import Derived.Lib.BufferOwn
import Derived.Deep.RegionHeld3
namespace Go.Proofs.YtjpchbcenbjibaaGreatDoor
open Go.RowKit
set_option linter.unusedVariables false
set_option linter.unusedSimpArgs false

/-- The parser's block. -/
def Pz (w : World) (g : Nat) (l : List UInt8) (s : PS) : Prop := w.heap[g]? = some (.cells #[.string (bs l), .int .i64 (s.i : Int), .int .i64 (s.c : Int), .int .i64 (s.e : Int), .int .i64 (s.o : Int)] 57 (0, 0))
section
variable {w w' : World} {g : Nat} {l : List UInt8} {s : PS}
theorem Pz.lt (h : Pz w g l s) : g < w.heap.size := (Array.getElem?_eq_some_iff.1 h).1
theorem Pz.below {B : Nat} (h : Pz w g l s) (hb : Below B w w') (hg : g < B) : Pz w' g l s := (hb.block g hg).trans h
theorem Pz.drew (h : Pz w g l s) : Pz w.drew g l s := h
theorem Pz.alloc (h : Pz w g l s) (o : Obj) : Pz (w.alloc o) g l s := (Below.heap_alloc w o g h.lt).trans h
theorem Pz.cell0 (h : Pz w g l s) : w.cell? ⟨g, 0, none⟩ = some (.string (bs l)) := cell_of_row w g 0 _ 57 (0, 0) h
theorem Pz.cell1 (h : Pz w g l s) : w.cell? ⟨g, 1, none⟩ = some (.int .i64 (s.i : Int)) := cell_of_row w g 1 _ 57 (0, 0) h
theorem Pz.cell2 (h : Pz w g l s) : w.cell? ⟨g, 2, none⟩ = some (.int .i64 (s.c : Int)) := cell_of_row w g 2 _ 57 (0, 0) h
theorem Pz.cell3 (h : Pz w g l s) : w.cell? ⟨g, 3, none⟩ = some (.int .i64 (s.e : Int)) := cell_of_row w g 3 _ 57 (0, 0) h
theorem Pz.cell4 (h : Pz w g l s) : w.cell? ⟨g, 4, none⟩ = some (.int .i64 (s.o : Int)) := cell_of_row w g 4 _ 57 (0, 0) h
theorem Pz.frozen (h : Pz w g l s) (i : Nat) : w.frozen? ⟨g, i, none⟩ = false := by
  unfold World.frozen?
  rw [h]
  simp
theorem Pz.set (h : Pz w g l s) (i : Nat) (v : Value) (t : PS) (ht : (#[.string (bs l), .int .i64 (s.i : Int), .int .i64 (s.c : Int), .int .i64 (s.e : Int), .int .i64 (s.o : Int)] : Array Value).set! i v = #[.string (bs l), .int .i64 (t.i : Int), .int .i64 (t.c : Int), .int .i64 (t.e : Int), .int .i64 (t.o : Int)]) :
    Pz (w.setCell ⟨g, i, none⟩ v) g l t := by
  show (w.heap.modify g _)[g]? = _
  rw [Array.getElem?_modify, if_pos rfl, h]
  rw [← ht]
  rfl
theorem Pz.setI (h : Pz w g l s) (k : Int) (j : Nat) (hk : k = (j : Int)) : Pz (w.setCell ⟨g, 1, none⟩ (.int .i64 k)) g l ⟨j, s.c, s.e, s.o⟩ := by subst hk; exact h.set 1 _ _ rfl
theorem Pz.setC (h : Pz w g l s) (k : Int) (j : Nat) (hk : k = (j : Int)) : Pz (w.setCell ⟨g, 2, none⟩ (.int .i64 k)) g l ⟨s.i, j, s.e, s.o⟩ := by subst hk; exact h.set 2 _ _ rfl
theorem Pz.setE (h : Pz w g l s) (k : Int) (j : Nat) (hk : k = (j : Int)) : Pz (w.setCell ⟨g, 3, none⟩ (.int .i64 k)) g l ⟨s.i, s.c, j, s.o⟩ := by subst hk; exact h.set 3 _ _ rfl
theorem Pz.setO (h : Pz w g l s) (k : Int) (j : Nat) (hk : k = (j : Int)) : Pz (w.setCell ⟨g, 4, none⟩ (.int .i64 k)) g l ⟨s.i, s.c, s.e, j⟩ := by subst hk; exact h.set 4 _ _ rfl
end
theorem grown_drewP (w : World) (row : Option Nat) : w.grownBy w.drew row := ⟨rfl, rfl, rfl, Nat.le_refl _, fun _ _ _ => rfl⟩
theorem grown_reflP (w : World) (row : Option Nat) : w.grownBy w row := ⟨rfl, rfl, rfl, Nat.le_refl _, fun _ _ _ => rfl⟩
theorem grown_setP (w : World) (g i : Nat) (v : Value) : w.grownBy (w.setCell ⟨g, i, none⟩ v) (some g) := Go.Lib.grownBy_setB (grown_reflP w (some g)) i v
/-- What a method of the parser leaves. -/
def GPz (w : World) (g : Nat) (l : List UInt8) (s : PS) (v : Value) (e : Ending) (w' : World) : Prop := e = .returned v ∧ Pz w' g l s ∧ w.grownBy w' (some g)
theorem isd_calls (c : UInt8) (w : World) : Calls Tryz.prog 89 #[.int .u8 (c.toNat : Int)] w fun e w' => e = .returned (.bool (isd c)) ∧ w = w' := by
  have hb : isd c = (decide (48 ≤ c.toNat) && decide (c.toNat ≤ 57)) := rfl
  by_cases h1 : 48 ≤ c.toNat
  · have d1 : decide ((48 : Int) ≤ (c.toNat : Int)) = true := by simp; omega
    by_cases h2 : c.toNat ≤ 57
    · have d2 : decide ((c.toNat : Int) ≤ 57) = true := by simp; omega
      have hc : isd c = true := by rw [hb]; simp [h1, h2]
      rw [hc]
      clear hb h1 h2 hc
      go_enter Tryz.func89, Tryz.ntmps89
      go_wp2
      go_ret
      exact ⟨rfl, rfl⟩
    · have d2 : decide ((c.toNat : Int) ≤ 57) = false := by simp; omega
      have hc : isd c = false := by rw [hb]; simp [h2]
      rw [hc]
      clear hb h1 h2 hc
      go_enter Tryz.func89, Tryz.ntmps89
      go_wp2
      go_ret
      exact ⟨rfl, rfl⟩
  · have d1 : decide ((48 : Int) ≤ (c.toNat : Int)) = false := by simp; omega
    have hc : isd c = false := by rw [hb]; simp [h1]
    rw [hc]
    clear hb h1 hc
    go_enter Tryz.func89, Tryz.ntmps89
    go_wp2
    go_ret
    exact ⟨rfl, rfl⟩
theorem fail_calls (g : Nat) (l : List UInt8) (s : PS) (o e : Nat) (O E : Int) (w : World) (hO : O = (o : Int)) (hE : E = (e : Int)) (h : Pz w g l s) :
    Calls Tryz.prog 67 #[.pointer (some ⟨g, 0, none⟩), .int .i64 O, .int .i64 E] w (GPz w g l (s.fail o e) (.tuple #[])) := by
  subst hO hE
  have c3 := h.cell3
  have f3 := h.frozen 3
  have c4 := h.cell4
  have f4 := h.frozen 4
  by_cases h0 : s.e = 0
  · have d0 : ((s.e : Int) == 0) = true := by simp [h0]
    have h1 := (h.setE (e : Int) e rfl).setO (o : Int) o rfl
    rw [PS.fail_new h0]
    have hg := Go.Lib.grownBy_setB (grown_setP w g 3 (.int .i64 (e : Int))) 4 (.int .i64 (o : Int))
    clear h0
    go_enter Tryz.func67, Tryz.ntmps67
    go_wp2
    go_end0
    exact ⟨rfl, h1, hg⟩
  · have d0 : ((s.e : Int) == 0) = false := by simp [h0]
    rw [PS.fail_keep h0]
    clear h0
    go_enter Tryz.func67, Tryz.ntmps67
    go_wp2
    go_end0
    exact ⟨rfl, h, grown_reflP _ _⟩
theorem fin_calls (g : Nat) (l : List UInt8) (s : PS) (w : World) (h : Pz w g l s) :
    Calls Tryz.prog 65 #[.pointer (some ⟨g, 0, none⟩)] w (GPz w g l (s.fin l) (.tuple #[])) := by
  have c0 := h.cell0
  have c1 := h.cell1
  have hs := bs_size l
  have h' := h.drew
  by_cases h0 : s.i < l.length
  · have d0 : decide ((s.i : Int) < (l.length : Int)) = true := by simp; omega
    have hf : s.fin l = s.fail s.i 4 := by unfold PS.fin; rw [if_pos h0]
    rw [hf]
    go_enter Tryz.func65, Tryz.ntmps65
    go_wp2_with fail
    go_region
    all_goals go_wp2_with fail
    all_goals
      refine (fail_calls g l s s.i 4 _ _ _ rfl rfl h').mono ?_
      rintro e w2 ⟨rfl, h2, hg2⟩
      go_wp2
      go_end0
      exact ⟨rfl, h2, Go.Lib.grownBy_trans (grown_drewP w _) hg2⟩
  · have d0 : decide ((s.i : Int) < (l.length : Int)) = false := by simp; omega
    have hf : s.fin l = s := by unfold PS.fin; rw [if_neg h0]
    rw [hf]
    go_enter Tryz.func65, Tryz.ntmps65
    go_wp2_with fail
    go_region
    all_goals go_wp2
    all_goals go_end0
    all_goals exact ⟨rfl, h', grown_drewP w _⟩
theorem skip_yes (g : Nat) (l : List UInt8) (s : PS) (b : UInt8) (B : Int) (w : World) (hB : B = (b.toNat : Int)) (h : Pz w g l s) (hl : l.length ≤ 100000) (hb : l[s.i]? = some b) :
    Calls Tryz.prog 62 #[.pointer (some ⟨g, 0, none⟩), .int .u8 B] w (GPz w g l s.skip (.bool true)) := by
  subst hB
  have hlt : s.i < l.length := (List.getElem?_eq_some_iff.1 hb).1
  have c0 := h.drew.cell0
  have c1 := h.drew.cell1
  have f1 := h.drew.frozen 1
  have e0 := h.cell0
  have e1 := h.cell1
  have hs := bs_size l
  have hlt2 : s.i < (bs l).size := by omega
  have d0 : ((s.i : Int) == (l.length : Int)) = false := by simp; omega
  have hx := bs_get l s.i b b.toNat hb rfl
  have d1 : ((b.toNat : Int) != (b.toNat : Int)) = false := by simp
  have h1 := h.drew.setI ((s.i : Int) + 1) (s.i + 1) (by omega)
  have hg : w.grownBy (w.drew.setCell ⟨g, 1, none⟩ (.int .i64 ((s.i : Int) + 1))) (some g) := Go.Lib.grownBy_setB (grown_drewP w (some g)) 1 _
  go_enter Tryz.func62, Tryz.ntmps62
  go_wp2_with fail
  go_region
  all_goals go_wp2
  all_goals go_ret
  all_goals exact ⟨rfl, h1, hg⟩
theorem skip_no (g : Nat) (l : List UInt8) (s : PS) (b : UInt8) (B : Int) (w : World) (hB : B = (b.toNat : Int)) (h : Pz w g l s) (hl : l.length ≤ 100000) (hi : s.i ≤ l.length) (hb : l[s.i]? ≠ some b) :
    Calls Tryz.prog 62 #[.pointer (some ⟨g, 0, none⟩), .int .u8 B] w (GPz w g l s (.bool false)) := by
  subst hB
  have e0 := h.cell0
  have e1 := h.cell1
  have h' := h.drew
  have hs := bs_size l
  by_cases hlt : s.i < l.length
  · have hlt2 : s.i < (bs l).size := by omega
    have d0 : ((s.i : Int) == (l.length : Int)) = false := by simp; omega
    obtain ⟨c, hc⟩ : ∃ c, l[s.i]? = some c := ⟨_, List.getElem?_eq_getElem hlt⟩
    have hx := bs_get l s.i c c.toNat hc rfl
    have d1 : ((c.toNat : Int) != (b.toNat : Int)) = true := by
      have : c.toNat ≠ b.toNat := fun e => hb (by rw [hc, UInt8.toNat_inj.1 e])
      simp
      omega
    clear hb hc
    go_enter Tryz.func62, Tryz.ntmps62
    go_wp2_with fail
    go_region
    all_goals go_wp2
    all_goals go_ret
    all_goals exact ⟨rfl, h', grown_drewP w _⟩
  · have d0 : ((s.i : Int) == (l.length : Int)) = true := by simp; omega
    clear hb
    go_enter Tryz.func62, Tryz.ntmps62
    go_wp2_with fail
    go_region
    all_goals go_wp2
    all_goals go_ret
    all_goals exact ⟨rfl, h', grown_drewP w _⟩
end Go.Proofs.YtjpchbcenbjibaaGreatDoor
