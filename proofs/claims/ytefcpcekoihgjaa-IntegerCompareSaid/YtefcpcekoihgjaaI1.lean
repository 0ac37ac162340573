/-
  Integers: what a number with a sign reads as; signed, Make, Neg, and the specification's Make, Neg, Same.
-/
import Derived.Test.YtefcpcekoihgjaaFr
import Derived.Test.YtefcpcekoihgjaaDivLaw
import Derived.Test.YtefcpcekoihgjaaCmpLaw
import Derived.Test.YtefcpcekoihgjaaSubLaw
namespace Go.Proofs.Ytefcpcekoihgjaa
open Go.RowKit
set_option linter.unusedVariables false
set_option linter.unusedSimpArgs false

/-- The number of a sign and limbs. -/
def iv (s : Bool) (xs : List Nat) : Int := if s then -(val xs : Int) else (val xs : Int)
/-- A sign and a slice read as the number z. -/
def Iz (w : World) (s : Bool) (A : Option Addr) (n c : Nat) (z : Int) : Prop := ∃ xs, Rd w A n c xs ∧ iv s xs = z
/-- .. in the canonical form. -/
def Cz (w : World) (s : Bool) (A : Option Addr) (n c : Nat) (z : Int) : Prop := Rd w A n c (dg z.natAbs) ∧ s = decide (z < 0)
/-- What a function hands back that makes a number. -/
def GI (w : World) (z : Int) (e : Ending) (w' : World) : Prop := ∃ s A n c, e = .returned (.agg #[.bool s, .slice A n c]) ∧ Cz w' s A n c z ∧ Below w.heap.size w w'

theorem iv_abs (s : Bool) (xs : List Nat) : (iv s xs).natAbs = val xs := by unfold iv; split <;> omega
theorem iv_neg (s : Bool) (xs : List Nat) : decide (iv s xs < 0) = (s && decide (0 < val xs)) := by
  unfold iv
  cases s <;> simp
theorem Cz.iz {w : World} {s : Bool} {A : Option Addr} {n c : Nat} {z : Int} (h : Cz w s A n c z) : Iz w s A n c z := by
  obtain ⟨h, rfl⟩ := h
  refine ⟨_, h, ?_⟩
  unfold iv
  rw [val_dg]
  split <;> rename_i h0 <;> simp at h0 <;> omega
theorem Cz.below {w w' : World} {s : Bool} {A : Option Addr} {n c : Nat} {z : Int} (h : Cz w s A n c z) (hb : Below w.heap.size w w') : Cz w' s A n c z := ⟨h.1.below hb, h.2⟩
theorem Iz.below {w w' : World} {s : Bool} {A : Option Addr} {n c : Nat} {z : Int} (h : Iz w s A n c z) (hb : Below w.heap.size w w') : Iz w' s A n c z := by
  obtain ⟨xs, h, hz⟩ := h
  exact ⟨xs, h.below hb, hz⟩
theorem Cz.len {w : World} {s : Bool} {A : Option Addr} {n c : Nat} {z : Int} (h : Cz w s A n c z) {k : Nat} (hz : z.natAbs < pw k) : n ≤ k := by
  have := h.1.len
  have := len_dg_le hz
  omega
theorem Iz.abs {w : World} {s : Bool} {A : Option Addr} {n c : Nat} {z : Int} (h : Iz w s A n c z) {k : Nat} (hn : n ≤ k) : z.natAbs < pw k := by
  obtain ⟨xs, h, rfl⟩ := h
  rw [iv_abs]
  exact rd_lt h hn

/-- A block that holds a struct of two cells. -/
def Sb (w : World) (g : Nat) (v0 v1 : Value) : Prop := w.heap[g]? = some (.cells #[v0, v1] 25 (0, 0))
section
variable {w w' : World} {g : Nat} {v0 v1 : Value}
theorem Sb.lt (h : Sb w g v0 v1) : g < w.heap.size := by
  rcases Nat.lt_or_ge g w.heap.size with hb | hb
  · exact hb
  · unfold Sb at h
    rw [Array.getElem?_eq_none hb] at h
    cases h
theorem Sb.new (w : World) (v0 v1 : Value) : Sb (w.alloc (.cells #[v0, v1] 25)) w.heap.size v0 v1 := heap_alloc_new w _
theorem Sb.below {B : Nat} (h : Sb w g v0 v1) (hb : Below B w w') (hg : g < B) : Sb w' g v0 v1 := (hb.block g hg).trans h
theorem Sb.cell0 (h : Sb w g v0 v1) : w.cell? ⟨g, 0, none⟩ = some v0 := cell_of_row w g 0 #[v0, v1] 25 (0, 0) h
theorem Sb.cell1 (h : Sb w g v0 v1) : w.cell? ⟨g, 1, none⟩ = some v1 := cell_of_row w g 1 #[v0, v1] 25 (0, 0) h
theorem Sb.frozen (h : Sb w g v0 v1) (i : Nat) : w.frozen? ⟨g, i, none⟩ = false := by
  unfold Sb at h
  simp [World.frozen?, h]
theorem Sb.drew (h : Sb w g v0 v1) : Sb w.drew g v0 v1 := h
theorem Sb.drewN (h : Sb w g v0 v1) (n : Nat) : Sb (w.drewN n) g v0 v1 := h
theorem Sb.alloc (h : Sb w g v0 v1) (o : Obj) : Sb (w.alloc o) g v0 v1 := (Below.heap_alloc w o g h.lt).trans h
theorem Sb.far (h : Sb w g v0 v1) {p : Addr} (hp : g ≠ p.block) (u : Value) : Sb (w.setCell p u) g v0 v1 := (Below.heap_setCell w p u g hp).trans h
theorem Sb.set0 (h : Sb w g v0 v1) (u : Value) : Sb (w.setCell ⟨g, 0, none⟩ u) g u v1 := by
  unfold Sb at h ⊢
  simp [World.setCell, Array.getElem?_modify, h]
theorem Sb.set1 (h : Sb w g v0 v1) (u : Value) : Sb (w.setCell ⟨g, 1, none⟩ u) g v0 u := by
  unfold Sb at h ⊢
  simp [World.setCell, Array.getElem?_modify, h]
theorem Rd.away {A : Option Addr} {n c : Nat} {xs : List Nat} (h : Rd w A n c xs) {s : Bool} {B : Option Addr} {l d : Nat} (hs : Sb w g (.bool s) (.slice B l d)) : Away A n g := fun hn ad had hg => by
  obtain ⟨b, off, rfl, hb, hc⟩ := h.at_ hn
  obtain rfl := Option.some.inj had
  subst hg
  have h0 := hc 0 hn
  have h1 := cell_of_row w b (off + 0) #[.bool s, .slice B l d] 25 (0, 0) hs
  have h2 : (#[.bool s, .slice B l d] : Array Value)[off + 0]? = some (.int .u32 (lim xs 0 : Nat)) := h1.symm.trans h0
  rcases off with _ | _ | off <;> simp at h2
theorem Rd.far {A : Option Addr} {n c : Nat} {xs : List Nat} (h : Rd w A n c xs) (ha : Away A n g) (i : Nat) (v : Value) : Rd (w.setCell ⟨g, i, none⟩ v) A n c xs :=
  ⟨h.len, h.sm, h.cap, fun hn => by
    obtain ⟨b, off, hA, hb, hc⟩ := h.at_ hn
    have := ha hn _ hA
    refine ⟨b, off, hA, by simpa [World.setCell] using hb, fun k hk => ?_⟩
    rw [← hc k hk]
    exact World.cell?_of_block (Below.heap_setCell w _ v b this)⟩
end
/-- A result stored in its block. -/
theorem gi_end {w w2 : World} {g : Nat} {s s0 : Bool} {A A0 : Option Addr} {n c n0 c0 : Nat} {z : Int} (hB : Below w.heap.size w w2) (hg : w.heap.size ≤ g) (hs : Sb w2 g (.bool s0) (.slice A0 n0 c0)) (hc : Cz w2 s A n c z) :
    GI w z (.returned (.agg #[.bool s, .slice A n c])) ((w2.setCell ⟨g, 0, none⟩ (.bool s)).setCell ⟨g, 1, none⟩ (.slice A n c)) := by
  have ha := hc.1.away hs
  exact ⟨_, _, _, _, rfl, ⟨(hc.1.far ha _ _).far ha _ _, hc.2⟩, (hB.setCell hg _).setCell hg _⟩
theorem Iz.alloc {w : World} {s : Bool} {A : Option Addr} {n c : Nat} {z : Int} (h : Iz w s A n c z) (o : Obj) : Iz (w.alloc o) s A n c z := h.below ((Below.refl _ _).alloc (Nat.le_refl _) _)
theorem Cz.alloc {w : World} {s : Bool} {A : Option Addr} {n c : Nat} {z : Int} (h : Cz w s A n c z) (o : Obj) : Cz (w.alloc o) s A n c z := h.below ((Below.refl _ _).alloc (Nat.le_refl _) _)
theorem Cz.stor {w : World} {g : Nat} {s0 t : Bool} {A0 B : Option Addr} {n0 c0 m d : Nat} (hs : Sb w g (.bool s0) (.slice A0 n0 c0)) {s : Bool} {A : Option Addr} {n c : Nat} {z : Int} (h : Cz w s A n c z) : Cz ((w.setCell ⟨g, 0, none⟩ (.bool t)).setCell ⟨g, 1, none⟩ (.slice B m d)) s A n c z := by
  have ha := h.1.away hs
  exact ⟨(h.1.far ha _ _).far ha _ _, h.2⟩
theorem Iz.stor {w : World} {g : Nat} {s0 t : Bool} {A0 B : Option Addr} {n0 c0 m d : Nat} (hs : Sb w g (.bool s0) (.slice A0 n0 c0)) {s : Bool} {A : Option Addr} {n c : Nat} {z : Int} (h : Iz w s A n c z) : Iz ((w.setCell ⟨g, 0, none⟩ (.bool t)).setCell ⟨g, 1, none⟩ (.slice B m d)) s A n c z := by
  obtain ⟨xs, h, hz⟩ := h
  have ha := h.away hs
  exact ⟨xs, (h.far ha _ _).far ha _ _, hz⟩
theorem Sb.stor {w : World} {g : Nat} {v0 v1 u0 u1 : Value} (h : Sb w g v0 v1) : Sb ((w.setCell ⟨g, 0, none⟩ u0).setCell ⟨g, 1, none⟩ u1) g u0 u1 := (h.set0 u0).set1 u1
theorem Sb.past {w : World} {g g' : Nat} {v0 v1 u0 u1 : Value} (h : Sb w g v0 v1) (hg : g ≠ g') : Sb ((w.setCell ⟨g', 0, none⟩ u0).setCell ⟨g', 1, none⟩ u1) g v0 v1 := (h.far hg u0).far hg u1
theorem below_stor {B : Nat} {w w1 : World} {g : Nat} {u0 u1 : Value} (h : Below B w w1) (hg : B ≤ g) : Below B w ((w1.setCell ⟨g, 0, none⟩ u0).setCell ⟨g, 1, none⟩ u1) := (h.setCell hg _).setCell hg _
section
variable {w w1 : World} {a0 a1 b0 b1 c0 c1 d0 d1 : Value}
theorem ent1 (hb : Below (w.alloc (.cells #[a0, a1] 25)).heap.size (w.alloc (.cells #[a0, a1] 25)) w1) : Below w.heap.size w w1 ∧ Sb w1 w.heap.size a0 a1 :=
  ⟨below_then ((Below.refl _ _).alloc (Nat.le_refl _) _) (Nat.le_refl _) hb, (Sb.new w a0 a1).below hb (by simp)⟩
theorem ent2 (hb : Below ((w.alloc (.cells #[a0, a1] 25)).alloc (.cells #[b0, b1] 25)).heap.size ((w.alloc (.cells #[a0, a1] 25)).alloc (.cells #[b0, b1] 25)) w1) : Below w.heap.size w w1 ∧ Sb w1 w.heap.size a0 a1 ∧ Sb w1 (w.heap.size + 1) b0 b1 := by
  obtain ⟨h1, h2⟩ := ent1 hb
  rw [World.size_alloc] at h2
  exact ⟨below_then ((Below.refl _ _).alloc (Nat.le_refl _) _) (Nat.le_refl _) h1, (Sb.new w a0 a1).below h1 (by simp), h2⟩
theorem ent3 (hb : Below (((w.alloc (.cells #[a0, a1] 25)).alloc (.cells #[b0, b1] 25)).alloc (.cells #[c0, c1] 25)).heap.size (((w.alloc (.cells #[a0, a1] 25)).alloc (.cells #[b0, b1] 25)).alloc (.cells #[c0, c1] 25)) w1) :
    Below w.heap.size w w1 ∧ Sb w1 w.heap.size a0 a1 ∧ Sb w1 (w.heap.size + 1) b0 b1 ∧ Sb w1 (w.heap.size + 2) c0 c1 := by
  obtain ⟨h1, h2, h3⟩ := ent2 hb
  rw [World.size_alloc] at h2 h3
  exact ⟨below_then ((Below.refl _ _).alloc (Nat.le_refl _) _) (Nat.le_refl _) h1, (Sb.new w a0 a1).below h1 (by simp), h2, h3⟩
theorem ent4 (hb : Below ((((w.alloc (.cells #[a0, a1] 25)).alloc (.cells #[b0, b1] 25)).alloc (.cells #[c0, c1] 25)).alloc (.cells #[d0, d1] 25)).heap.size ((((w.alloc (.cells #[a0, a1] 25)).alloc (.cells #[b0, b1] 25)).alloc (.cells #[c0, c1] 25)).alloc (.cells #[d0, d1] 25)) w1) :
    Below w.heap.size w w1 ∧ Sb w1 w.heap.size a0 a1 ∧ Sb w1 (w.heap.size + 1) b0 b1 ∧ Sb w1 (w.heap.size + 2) c0 c1 ∧ Sb w1 (w.heap.size + 3) d0 d1 := by
  obtain ⟨h1, h2, h3, h4⟩ := ent3 hb
  rw [World.size_alloc] at h2 h3 h4
  exact ⟨below_then ((Below.refl _ _).alloc (Nat.le_refl _) _) (Nat.le_refl _) h1, (Sb.new w a0 a1).below h1 (by simp), h2, h3, h4⟩
end

theorem signed_calls (s : Bool) (A : Option Addr) (n c : Nat) (m : Nat) (z : Int) (w : World) (h : Rd w A n c (dg m)) (hz : (if s then -(m : Int) else (m : Int)) = z) :
    Calls Try.prog 35 #[.bool s, .slice A n c] w (GI w z) := by
  have hl := h.len
  have hm : m = 0 ↔ n = 0 := by rw [← hl, List.length_eq_zero_iff]; exact dg_nil_iff.symm
  have hz2 : z.natAbs = m := by cases s <;> simp at hz <;> omega
  have fin : ∀ b : Bool, b = decide (z < 0) → GI w z (.returned (.agg #[.bool b, .slice A n c])) (w.alloc (.cells #[.bool b, .slice A n c] 25)) := fun b hb =>
    ⟨_, _, _, _, rfl, ⟨by rw [hz2]; exact h.below ((Below.refl _ _).alloc (Nat.le_refl _) _), hb⟩, (Below.refl _ _).alloc (Nat.le_refl _) _⟩
  have F := hide fin
  clear fin hl
  cases s
  · have hz3 := hide (show false = decide (z < 0) by simp at hz; simp; omega)
    clear hz hz2 hm
    go_enter Try.func35, Try.ntmps35
    go_wp2
    refine bodyPost_ret (v := .agg #[.bool false, .slice A n c]) (by simp [results, Try.results35, go_sem]) rfl (F.out false hz3.out)
  · have hz3 := hide (show decide (0 < n) = decide (z < 0) by simp at hz; simp; omega)
    clear hz hz2 hm
    go_enter Try.func35, Try.ntmps35
    go_wp2
    refine bodyPost_ret (v := .agg #[.bool (decide (0 < n)), .slice A n c]) (by simp [results, Try.results35, go_sem]) rfl (F.out _ hz3.out)

theorem make_int (s : Bool) (A : Option Addr) (n c : Nat) (z : Int) (w : World) (h : Iz w s A n c z) (hn : n ≤ 1048576) :
    Calls Try.prog 11 #[.bool s, .slice A n c] w (GI w z) := by
  obtain ⟨xs, h, hz⟩ := h
  have HZ := hide hz
  clear hz
  have h1 := h.below ((Below.refl _ _).alloc (Nat.le_refl _) (.cells #[.bool false, .slice none 0 0] 25))
  go_enter Try.func11, Try.ntmps11
  go_wp2_with fail
  refine (make_calls _ _ _ _ _ h1 hn).mono ?_
  rintro e w1 ⟨A1, c1, rfl, hr1, hb1⟩
  go_wp2_with fail
  refine (signed_calls _ _ _ _ _ z _ hr1 HZ.out).mono ?_
  rintro e w2 ⟨s2, A2, n2, c2, rfl, hc2, hb2⟩
  obtain ⟨hB, hs⟩ := ent1 (below_then hb1 (Nat.le_refl _) hb2)
  have k0 := hs.cell0
  have k1 := hs.cell1
  have k2 := hs.frozen 0
  have k3 := hs.frozen 1
  go_wp2_with fail
  refine bodyPost_ret (v := .agg #[.bool s2, .slice A2 n2 c2]) (by simp [results, Try.results11, go_sem, (hs.set0 (.bool s2)).cell0, ((hs.set0 (.bool s2)).set1 (.slice A2 n2 c2)).cell1]) rfl (gi_end hB (Nat.le_refl _) hs hc2)
/-- The specification's Make. -/
theorem rmake_int (s : Bool) (A : Option Addr) (n c : Nat) (z : Int) (w : World) (h : Iz w s A n c z) (hn : n ≤ 1048576) :
    Calls Try.prog 13 #[.bool s, .slice A n c] w (GI w z) := by
  obtain ⟨xs, h, hz⟩ := h
  have h1 := h.below ((Below.refl _ _).alloc (Nat.le_refl _) (.cells #[.bool false, .slice none 0 0] 25))
  have ha : z.natAbs = val xs := by rw [← hz, iv_abs]
  have hm : val xs = 0 ↔ (dg (val xs)).length = 0 := by rw [List.length_eq_zero_iff]; exact dg_nil_iff.symm
  have hs2 : (s && decide (0 < (dg (val xs)).length)) = decide (z < 0) := by
    rw [← hz, iv_neg]
    congr 1
    simp only [decide_eq_decide]
    omega
  obtain ⟨L, hL⟩ : ∃ L, (dg (val xs)).length = L := ⟨_, rfl⟩
  rw [hL] at hs2
  have HS := hide hs2
  have HL := hide hL
  have HA := hide ha
  clear hm hs2 hz hL ha
  cases s
  · go_enter Try.func13, Try.ntmps13
    go_wp2_with fail
    refine (rmake_len _ _ _ _ _ L HL.out h1 (by omega)).mono ?_
    rintro e w1 ⟨A1, c1, rfl, hr1, hb1⟩
    obtain ⟨hB, hs⟩ := ent1 hb1
    have k0 := hs.cell0
    have k1 := hs.cell1
    have k2 := hs.frozen 0
    have k3 := hs.frozen 1
    go_wp2_with fail
    refine bodyPost_ret (v := .agg #[.bool false, .slice A1 L c1]) (by simp [results, Try.results13, go_sem, (hs.set0 (.bool false)).cell0, ((hs.set0 (.bool false)).set1 (.slice A1 L c1)).cell1]) rfl (gi_end hB (Nat.le_refl _) hs ⟨by rw [HA.out]; exact hr1, HS.out⟩)
  · go_enter Try.func13, Try.ntmps13
    go_wp2_with fail
    refine (rmake_len _ _ _ _ _ L HL.out h1 (by omega)).mono ?_
    rintro e w1 ⟨A1, c1, rfl, hr1, hb1⟩
    obtain ⟨hB, hs⟩ := ent1 hb1
    have k0 := hs.cell0
    have k1 := hs.cell1
    have k2 := hs.frozen 0
    have k3 := hs.frozen 1
    go_wp2_with fail
    refine bodyPost_ret (v := .agg #[.bool (decide (0 < L)), .slice A1 L c1]) (by simp [results, Try.results13, go_sem, (hs.set0 (.bool (decide (0 < L)))).cell0, ((hs.set0 (.bool (decide (0 < L)))).set1 (.slice A1 L c1)).cell1]) rfl (gi_end hB (Nat.le_refl _) hs ⟨by rw [HA.out]; exact hr1, HS.out⟩)
end Go.Proofs.Ytefcpcekoihgjaa
