/-
  Several texts in one, in build order: I1 I2 I3 I4 I5 I6 I7 I8 I9 J1.
-/
import Derived.Test.YtnddhohjfjlaiaaGreatDoorM3
import Derived.Deep.RegionHeld3

/-
  Integers: what a number with a sign reads as; signed, Make, Neg, and the specification's Make, Neg, Same.
-/
namespace Go.Proofs.YtnddhohjfjlaiaaGreatDoor
open Go.RowKit
set_option linter.unusedVariables false
set_option linter.unusedSimpArgs false

/-- The number of a sign and limbs. -/
def iv (s : Bool) (xs : List Nat) : Int := if s then -(val xs : Int) else (val xs : Int)
/-- A sign and a slice read as the number z. -/
def Iz (w : World) (s : Bool) (A : Option Addr) (n c : Nat) (z : Int) : Prop := ∃ xs, Rd w A n c xs ∧ iv s xs = z
/-- .. in the canonical form. -/
def Cz (w : World) (s : Bool) (A : Option Addr) (n c : Nat) (z : Int) : Prop := Rd w A n c (dg z.natAbs) ∧ s = decide (z < 0)
/-- What a function hands back that makes a number. -/
def GI (w : World) (z : Int) (e : Ending) (w' : World) : Prop := ∃ s A n c, e = .returned (.agg #[.bool s, .slice A n c]) ∧ Cz w' s A n c z ∧ Below w.heap.size w w'

theorem iv_abs (s : Bool) (xs : List Nat) : (iv s xs).natAbs = val xs := by unfold iv; split <;> omega
theorem iv_neg (s : Bool) (xs : List Nat) : decide (iv s xs < 0) = (s && decide (0 < val xs)) := by
  unfold iv
  cases s <;> simp
theorem Cz.iz {w : World} {s : Bool} {A : Option Addr} {n c : Nat} {z : Int} (h : Cz w s A n c z) : Iz w s A n c z := by
  obtain ⟨h, rfl⟩ := h
  refine ⟨_, h, ?_⟩
  unfold iv
  rw [val_dg]
  split <;> rename_i h0 <;> simp at h0 <;> omega
theorem Cz.below {w w' : World} {s : Bool} {A : Option Addr} {n c : Nat} {z : Int} (h : Cz w s A n c z) (hb : Below w.heap.size w w') : Cz w' s A n c z := ⟨h.1.below hb, h.2⟩
theorem Iz.below {w w' : World} {s : Bool} {A : Option Addr} {n c : Nat} {z : Int} (h : Iz w s A n c z) (hb : Below w.heap.size w w') : Iz w' s A n c z := by
  obtain ⟨xs, h, hz⟩ := h
  exact ⟨xs, h.below hb, hz⟩
theorem Cz.len {w : World} {s : Bool} {A : Option Addr} {n c : Nat} {z : Int} (h : Cz w s A n c z) {k : Nat} (hz : z.natAbs < pw k) : n ≤ k := by
  have := h.1.len
  have := len_dg_le hz
  omega
theorem Iz.abs {w : World} {s : Bool} {A : Option Addr} {n c : Nat} {z : Int} (h : Iz w s A n c z) {k : Nat} (hn : n ≤ k) : z.natAbs < pw k := by
  obtain ⟨xs, h, rfl⟩ := h
  rw [iv_abs]
  exact rd_lt h hn

/-- A block that holds a struct of two cells. -/
def Sb (w : World) (g : Nat) (v0 v1 : Value) : Prop := w.heap[g]? = some (.cells #[v0, v1] 62 (0, 0))
section
variable {w w' : World} {g : Nat} {v0 v1 : Value}
theorem Sb.lt (h : Sb w g v0 v1) : g < w.heap.size := by
  rcases Nat.lt_or_ge g w.heap.size with hb | hb
  · exact hb
  · unfold Sb at h
    rw [Array.getElem?_eq_none hb] at h
    cases h
theorem Sb.new (w : World) (v0 v1 : Value) : Sb (w.alloc (.cells #[v0, v1] 62)) w.heap.size v0 v1 := heap_alloc_new w _
theorem Sb.below {B : Nat} (h : Sb w g v0 v1) (hb : Below B w w') (hg : g < B) : Sb w' g v0 v1 := (hb.block g hg).trans h
theorem Sb.cell0 (h : Sb w g v0 v1) : w.cell? ⟨g, 0, none⟩ = some v0 := cell_of_row w g 0 #[v0, v1] 62 (0, 0) h
theorem Sb.cell1 (h : Sb w g v0 v1) : w.cell? ⟨g, 1, none⟩ = some v1 := cell_of_row w g 1 #[v0, v1] 62 (0, 0) h
theorem Sb.frozen (h : Sb w g v0 v1) (i : Nat) : w.frozen? ⟨g, i, none⟩ = false := by
  unfold Sb at h
  simp [World.frozen?, h]
theorem Sb.drew (h : Sb w g v0 v1) : Sb w.drew g v0 v1 := h
theorem Sb.drewN (h : Sb w g v0 v1) (n : Nat) : Sb (w.drewN n) g v0 v1 := h
theorem Sb.alloc (h : Sb w g v0 v1) (o : Obj) : Sb (w.alloc o) g v0 v1 := (Below.heap_alloc w o g h.lt).trans h
theorem Sb.far (h : Sb w g v0 v1) {p : Addr} (hp : g ≠ p.block) (u : Value) : Sb (w.setCell p u) g v0 v1 := (Below.heap_setCell w p u g hp).trans h
theorem Sb.set0 (h : Sb w g v0 v1) (u : Value) : Sb (w.setCell ⟨g, 0, none⟩ u) g u v1 := by
  unfold Sb at h ⊢
  simp [World.setCell, Array.getElem?_modify, h]
theorem Sb.set1 (h : Sb w g v0 v1) (u : Value) : Sb (w.setCell ⟨g, 1, none⟩ u) g v0 u := by
  unfold Sb at h ⊢
  simp [World.setCell, Array.getElem?_modify, h]
theorem Rd.away {A : Option Addr} {n c : Nat} {xs : List Nat} (h : Rd w A n c xs) {s : Bool} {B : Option Addr} {l d : Nat} (hs : Sb w g (.bool s) (.slice B l d)) : Away A n g := fun hn ad had hg => by
  obtain ⟨b, off, rfl, hb, hc⟩ := h.at_ hn
  obtain rfl := Option.some.inj had
  subst hg
  have h0 := hc 0 hn
  have h1 := cell_of_row w b (off + 0) #[.bool s, .slice B l d] 62 (0, 0) hs
  have h2 : (#[.bool s, .slice B l d] : Array Value)[off + 0]? = some (.int .u32 (lim xs 0 : Nat)) := h1.symm.trans h0
  rcases off with _ | _ | off <;> simp at h2
theorem Rd.far {A : Option Addr} {n c : Nat} {xs : List Nat} (h : Rd w A n c xs) (ha : Away A n g) (i : Nat) (v : Value) : Rd (w.setCell ⟨g, i, none⟩ v) A n c xs :=
  ⟨h.len, h.sm, h.cap, fun hn => by
    obtain ⟨b, off, hA, hb, hc⟩ := h.at_ hn
    have := ha hn _ hA
    refine ⟨b, off, hA, by simpa [World.setCell] using hb, fun k hk => ?_⟩
    rw [← hc k hk]
    exact World.cell?_of_block (Below.heap_setCell w _ v b this)⟩
end
/-- A result stored in its block. -/
theorem gi_end {w w2 : World} {g : Nat} {s s0 : Bool} {A A0 : Option Addr} {n c n0 c0 : Nat} {z : Int} (hB : Below w.heap.size w w2) (hg : w.heap.size ≤ g) (hs : Sb w2 g (.bool s0) (.slice A0 n0 c0)) (hc : Cz w2 s A n c z) :
    GI w z (.returned (.agg #[.bool s, .slice A n c])) ((w2.setCell ⟨g, 0, none⟩ (.bool s)).setCell ⟨g, 1, none⟩ (.slice A n c)) := by
  have ha := hc.1.away hs
  exact ⟨_, _, _, _, rfl, ⟨(hc.1.far ha _ _).far ha _ _, hc.2⟩, (hB.setCell hg _).setCell hg _⟩
theorem Iz.alloc {w : World} {s : Bool} {A : Option Addr} {n c : Nat} {z : Int} (h : Iz w s A n c z) (o : Obj) : Iz (w.alloc o) s A n c z := h.below ((Below.refl _ _).alloc (Nat.le_refl _) _)
theorem Cz.alloc {w : World} {s : Bool} {A : Option Addr} {n c : Nat} {z : Int} (h : Cz w s A n c z) (o : Obj) : Cz (w.alloc o) s A n c z := h.below ((Below.refl _ _).alloc (Nat.le_refl _) _)
theorem Cz.stor {w : World} {g : Nat} {s0 t : Bool} {A0 B : Option Addr} {n0 c0 m d : Nat} (hs : Sb w g (.bool s0) (.slice A0 n0 c0)) {s : Bool} {A : Option Addr} {n c : Nat} {z : Int} (h : Cz w s A n c z) : Cz ((w.setCell ⟨g, 0, none⟩ (.bool t)).setCell ⟨g, 1, none⟩ (.slice B m d)) s A n c z := by
  have ha := h.1.away hs
  exact ⟨(h.1.far ha _ _).far ha _ _, h.2⟩
theorem Iz.stor {w : World} {g : Nat} {s0 t : Bool} {A0 B : Option Addr} {n0 c0 m d : Nat} (hs : Sb w g (.bool s0) (.slice A0 n0 c0)) {s : Bool} {A : Option Addr} {n c : Nat} {z : Int} (h : Iz w s A n c z) : Iz ((w.setCell ⟨g, 0, none⟩ (.bool t)).setCell ⟨g, 1, none⟩ (.slice B m d)) s A n c z := by
  obtain ⟨xs, h, hz⟩ := h
  have ha := h.away hs
  exact ⟨xs, (h.far ha _ _).far ha _ _, hz⟩
theorem Sb.stor {w : World} {g : Nat} {v0 v1 u0 u1 : Value} (h : Sb w g v0 v1) : Sb ((w.setCell ⟨g, 0, none⟩ u0).setCell ⟨g, 1, none⟩ u1) g u0 u1 := (h.set0 u0).set1 u1
theorem Sb.past {w : World} {g g' : Nat} {v0 v1 u0 u1 : Value} (h : Sb w g v0 v1) (hg : g ≠ g') : Sb ((w.setCell ⟨g', 0, none⟩ u0).setCell ⟨g', 1, none⟩ u1) g v0 v1 := (h.far hg u0).far hg u1
theorem below_stor {B : Nat} {w w1 : World} {g : Nat} {u0 u1 : Value} (h : Below B w w1) (hg : B ≤ g) : Below B w ((w1.setCell ⟨g, 0, none⟩ u0).setCell ⟨g, 1, none⟩ u1) := (h.setCell hg _).setCell hg _
section
variable {w w1 : World} {a0 a1 b0 b1 c0 c1 d0 d1 : Value}
theorem ent1 (hb : Below (w.alloc (.cells #[a0, a1] 62)).heap.size (w.alloc (.cells #[a0, a1] 62)) w1) : Below w.heap.size w w1 ∧ Sb w1 w.heap.size a0 a1 :=
  ⟨below_then ((Below.refl _ _).alloc (Nat.le_refl _) _) (Nat.le_refl _) hb, (Sb.new w a0 a1).below hb (by simp)⟩
theorem ent2 (hb : Below ((w.alloc (.cells #[a0, a1] 62)).alloc (.cells #[b0, b1] 62)).heap.size ((w.alloc (.cells #[a0, a1] 62)).alloc (.cells #[b0, b1] 62)) w1) : Below w.heap.size w w1 ∧ Sb w1 w.heap.size a0 a1 ∧ Sb w1 (w.heap.size + 1) b0 b1 := by
  obtain ⟨h1, h2⟩ := ent1 hb
  rw [World.size_alloc] at h2
  exact ⟨below_then ((Below.refl _ _).alloc (Nat.le_refl _) _) (Nat.le_refl _) h1, (Sb.new w a0 a1).below h1 (by simp), h2⟩
theorem ent3 (hb : Below (((w.alloc (.cells #[a0, a1] 62)).alloc (.cells #[b0, b1] 62)).alloc (.cells #[c0, c1] 62)).heap.size (((w.alloc (.cells #[a0, a1] 62)).alloc (.cells #[b0, b1] 62)).alloc (.cells #[c0, c1] 62)) w1) :
    Below w.heap.size w w1 ∧ Sb w1 w.heap.size a0 a1 ∧ Sb w1 (w.heap.size + 1) b0 b1 ∧ Sb w1 (w.heap.size + 2) c0 c1 := by
  obtain ⟨h1, h2, h3⟩ := ent2 hb
  rw [World.size_alloc] at h2 h3
  exact ⟨below_then ((Below.refl _ _).alloc (Nat.le_refl _) _) (Nat.le_refl _) h1, (Sb.new w a0 a1).below h1 (by simp), h2, h3⟩
theorem ent4 (hb : Below ((((w.alloc (.cells #[a0, a1] 62)).alloc (.cells #[b0, b1] 62)).alloc (.cells #[c0, c1] 62)).alloc (.cells #[d0, d1] 62)).heap.size ((((w.alloc (.cells #[a0, a1] 62)).alloc (.cells #[b0, b1] 62)).alloc (.cells #[c0, c1] 62)).alloc (.cells #[d0, d1] 62)) w1) :
    Below w.heap.size w w1 ∧ Sb w1 w.heap.size a0 a1 ∧ Sb w1 (w.heap.size + 1) b0 b1 ∧ Sb w1 (w.heap.size + 2) c0 c1 ∧ Sb w1 (w.heap.size + 3) d0 d1 := by
  obtain ⟨h1, h2, h3, h4⟩ := ent3 hb
  rw [World.size_alloc] at h2 h3 h4
  exact ⟨below_then ((Below.refl _ _).alloc (Nat.le_refl _) _) (Nat.le_refl _) h1, (Sb.new w a0 a1).below h1 (by simp), h2, h3, h4⟩
end

/-- The specification's Make. -/
theorem rmake_int (s : Bool) (A : Option Addr) (n c : Nat) (z : Int) (w : World) (h : Iz w s A n c z) (hn : n ≤ 1048576) :
    Calls Tryz.prog 66 #[.bool s, .slice A n c] w (GI w z) := by
  obtain ⟨xs, h, hz⟩ := h
  have h1 := h.below ((Below.refl _ _).alloc (Nat.le_refl _) (.cells #[.bool false, .slice none 0 0] 62))
  have ha : z.natAbs = val xs := by rw [← hz, iv_abs]
  have hm : val xs = 0 ↔ (dg (val xs)).length = 0 := by rw [List.length_eq_zero_iff]; exact dg_nil_iff.symm
  have hs2 : (s && decide (0 < (dg (val xs)).length)) = decide (z < 0) := by
    rw [← hz, iv_neg]
    congr 1
    simp only [decide_eq_decide]
    omega
  obtain ⟨L, hL⟩ : ∃ L, (dg (val xs)).length = L := ⟨_, rfl⟩
  rw [hL] at hs2
  have HS := hide hs2
  have HL := hide hL
  have HA := hide ha
  clear hm hs2 hz hL ha
  cases s
  · go_enter Tryz.func66, Tryz.ntmps66
    go_wp2_with fail
    refine (rmake_len _ _ _ _ _ L HL.out h1 (by omega)).mono ?_
    rintro e w1 ⟨A1, c1, rfl, hr1, hb1⟩
    obtain ⟨hB, hs⟩ := ent1 hb1
    have k0 := hs.cell0
    have k1 := hs.cell1
    have k2 := hs.frozen 0
    have k3 := hs.frozen 1
    go_wp2_with fail
    refine bodyPost_ret (v := .agg #[.bool false, .slice A1 L c1]) (by simp [results, Tryz.results66, go_sem, (hs.set0 (.bool false)).cell0, ((hs.set0 (.bool false)).set1 (.slice A1 L c1)).cell1]) rfl (gi_end hB (Nat.le_refl _) hs ⟨by rw [HA.out]; exact hr1, HS.out⟩)
  · go_enter Tryz.func66, Tryz.ntmps66
    go_wp2_with fail
    refine (rmake_len _ _ _ _ _ L HL.out h1 (by omega)).mono ?_
    rintro e w1 ⟨A1, c1, rfl, hr1, hb1⟩
    obtain ⟨hB, hs⟩ := ent1 hb1
    have k0 := hs.cell0
    have k1 := hs.cell1
    have k2 := hs.frozen 0
    have k3 := hs.frozen 1
    go_wp2_with fail
    refine bodyPost_ret (v := .agg #[.bool (decide (0 < L)), .slice A1 L c1]) (by simp [results, Tryz.results66, go_sem, (hs.set0 (.bool (decide (0 < L)))).cell0, ((hs.set0 (.bool (decide (0 < L)))).set1 (.slice A1 L c1)).cell1]) rfl (gi_end hB (Nat.le_refl _) hs ⟨by rw [HA.out]; exact hr1, HS.out⟩)
end Go.Proofs.YtnddhohjfjlaiaaGreatDoor

/-
  Integers: Neg, Same, Valid, Sign, and the specification's.
-/
namespace Go.Proofs.YtnddhohjfjlaiaaGreatDoor
open Go.RowKit
set_option linter.unusedVariables false
set_option linter.unusedSimpArgs false

theorem Iz.neg {w : World} {s : Bool} {A : Option Addr} {n c : Nat} {z : Int} (h : Iz w s A n c z) : Iz w (!s) A n c (-z) := by
  obtain ⟨xs, h, rfl⟩ := h
  refine ⟨xs, h, ?_⟩
  cases s <;> simp [iv]

/-- What a call hands back that only asks. -/
def Asks (w : World) (v : Value) (e : Ending) (w' : World) : Prop := e = .returned v ∧ Below w.heap.size w w'

theorem ret_bool {a b : Bool} (h : a = b) : Ending.returned (.bool a) = .returned (.bool b) := by rw [h]
theorem Cz.valid {w : World} {s : Bool} {A : Option Addr} {n c : Nat} {z : Int} (h : Cz w s A n c z) : (decide (tlen (dg z.natAbs) = n) && (!s || decide (0 < n))) = true := by
  have e1 := h.1.len
  have e2 : z.natAbs = 0 ↔ n = 0 := by rw [← e1, List.length_eq_zero_iff]; exact dg_nil_iff.symm
  rw [tlen_dg, e1, h.2]
  simp
  omega
/-- The sign of a number. -/
def sz (z : Int) : Int := if z = 0 then 0 else if z < 0 then -1 else 1
theorem nb_zero {xs : List Nat} (hs : Sm xs) : nb xs = 0 ↔ val xs = 0 := by
  rw [← tlen_zero_iff]
  unfold nb
  by_cases h : tlen xs = 0
  · simp [h]
  · rw [if_neg h]
    have := tlen_top h
    constructor
    · intro h2
      exfalso
      have h3 : Lib.bitLen (lim xs (tlen xs - 1)) = 0 := by omega
      exact this (by
        rcases Nat.eq_zero_or_pos (lim xs (tlen xs - 1)) with h4 | h4
        · exact h4
        · have h5 := hs.lim (tlen xs - 1)
          have := Lib.bitLen_half (lim xs (tlen xs - 1)) (by omega) (by omega)
          omega)
    · intro h2; exact absurd h2 h
theorem sign_int (s : Bool) (A : Option Addr) (n c : Nat) (z r : Int) (w : World) (hr : sz z = r) (h : Iz w s A n c z) (hn : n ≤ 1048576) :
    Calls Tryz.prog 63 #[.agg #[.bool s, .slice A n c]] w (Asks w (.int .i64 r)) := by
  obtain ⟨xs, h, hz⟩ := h
  have h1 := rd_alloc h (.cells #[.bool s, .slice A n c] 62)
  have ha : z.natAbs = val xs := by rw [← hz, iv_abs]
  have hsg : z < 0 ↔ s = true ∧ 0 < val xs := by
    have := iv_neg s xs
    rw [hz, Bool.eq_iff_iff] at this
    simpa using this
  obtain ⟨b, hb⟩ : ∃ b, nb xs = b := ⟨_, rfl⟩
  have hb0 : b = 0 ↔ z = 0 := by rw [← hb, nb_zero h.sm]; omega
  have HB := hide hb
  have HR := hide hr
  clear hb hr
  by_cases h0 : z = 0
  · have e0 : (((b : Nat) : Int) == 0) = true := by simp; exact hb0.2 h0
    have er : r = 0 := by rw [← HR.out, sz, if_pos h0]
    subst er
    clear hb0 hsg ha hz h0 HR
    go_enter Tryz.func63, Tryz.ntmps63
    go_wp2_with fail
    refine (bits_calls _ _ _ _ _ b HB.out h1 hn).mono ?_
    rintro e w1 ⟨rfl, rfl⟩
    go_wp2
    go_ret
    exact ⟨rfl, (Below.refl _ _).alloc (Nat.le_refl _) _⟩
  · have e0 : (((b : Nat) : Int) == 0) = false := by simp; intro e; exact h0 (hb0.1 e)
    have er : r = if s then -1 else 1 := by
      rw [← HR.out, sz, if_neg h0]
      have : 0 < val xs := by omega
      cases s <;> simp at hsg <;> simp <;> omega
    subst er
    clear hb0 hsg ha hz h0 HR
    cases s
    all_goals
      go_enter Tryz.func63, Tryz.ntmps63
      go_wp2_with fail
      refine (bits_calls _ _ _ _ _ b HB.out h1 hn).mono ?_
      rintro e w1 ⟨rfl, rfl⟩
      go_wp2
      go_ret
      exact ⟨rfl, (Below.refl _ _).alloc (Nat.le_refl _) _⟩
end Go.Proofs.YtnddhohjfjlaiaaGreatDoor

/-
  Integers: Add, Sub, Mul, Cmp.
-/
namespace Go.Proofs.YtnddhohjfjlaiaaGreatDoor
open Go.RowKit
set_option linter.unusedVariables false
set_option linter.unusedSimpArgs false

theorem Rd.stor {w : World} {g : Nat} {s0 t : Bool} {A0 B : Option Addr} {n0 c0 m d : Nat} (hs : Sb w g (.bool s0) (.slice A0 n0 c0)) {A : Option Addr} {n c : Nat} {xs : List Nat} (h : Rd w A n c xs) : Rd ((w.setCell ⟨g, 0, none⟩ (.bool t)).setCell ⟨g, 1, none⟩ (.slice B m d)) A n c xs := by
  have ha := h.away hs
  exact (h.far ha _ _).far ha _ _
theorem Rd.drew {w : World} {A : Option Addr} {n c : Nat} {xs : List Nat} (h : Rd w A n c xs) : Rd w.drew A n c xs := h.below (Below.refl _ _).drew
theorem Iz.set0 {w : World} {g : Nat} {s0 : Bool} {A0 : Option Addr} {n0 c0 : Nat} {s : Bool} {A : Option Addr} {n c : Nat} {z : Int} (h : Iz w s A n c z) (hs : Sb w g (.bool s0) (.slice A0 n0 c0)) (t : Bool) : Iz (w.setCell ⟨g, 0, none⟩ (.bool t)) s A n c z := by
  obtain ⟨xs, h, hz⟩ := h
  exact ⟨xs, h.far (h.away hs) _ _, hz⟩
abbrev E0 : Obj := .cells #[.bool false, .slice none 0 0] 62
abbrev EI (s : Bool) (A : Option Addr) (n c : Nat) : Obj := .cells #[.bool s, .slice A n c] 62
section
variable {w w1 : World} {a0 a1 b0 b1 c0 c1 d0 d1 : Value}
theorem ent3d (hb : Below (((w.alloc (.cells #[a0, a1] 62)).alloc (.cells #[b0, b1] 62)).alloc (.cells #[c0, c1] 62)).drew.heap.size (((w.alloc (.cells #[a0, a1] 62)).alloc (.cells #[b0, b1] 62)).alloc (.cells #[c0, c1] 62)).drew w1) :
    Below w.heap.size w w1 ∧ Sb w1 w.heap.size a0 a1 ∧ Sb w1 (w.heap.size + 1) b0 b1 ∧ Sb w1 (w.heap.size + 2) c0 c1 :=
  ent3 ((Below.refl _ _).drew.trans hb)
end
end Go.Proofs.YtnddhohjfjlaiaaGreatDoor

/-
  Integers: Mul, the specification's Add, Sub, Mul.
-/
namespace Go.Proofs.YtnddhohjfjlaiaaGreatDoor
open Go.RowKit
set_option linter.unusedVariables false
set_option linter.unusedSimpArgs false

theorem iz_of {w : World} {A : Option Addr} {n c : Nat} {x : Nat} {Z : Int} (s : Bool) (hr : Rd w A n c (dg x)) (hZ : (if s then -(x : Int) else (x : Int)) = Z) : Iz w s A n c Z := ⟨_, hr, by rw [iv, val_dg]; exact hZ⟩
theorem radd_same (s : Bool) (A B : Option Addr) (n m c d : Nat) (xs ys : List Nat) (Z : Int) (w : World) (h : Rd w A n c xs) (k : Rd w B m d ys) (hn : n ≤ 65536) (hm : m ≤ 65536)
    (hZ : (if s then -((val xs + val ys : Nat) : Int) else ((val xs + val ys : Nat) : Int)) = Z) (hl : (dg (val xs + val ys)).length ≤ 1048576) :
    Calls Tryz.prog 93 #[.agg #[.bool s, .slice A n c], .agg #[.bool s, .slice B m d]] w (GI w Z) := by
  have hx := (rd_alloc (rd_alloc (rd_alloc h (EI s A n c)) (EI s B m d)) E0).drew
  have hy := (rd_alloc (rd_alloc (rd_alloc k (EI s A n c)) (EI s B m d)) E0).drew
  have hn2 : n ≤ 1048576 := by omega
  have hm2 : m ≤ 1048576 := by omega
  have HZ := hide hZ
  clear hZ
  obtain ⟨B0, ha, hb, hs⟩ := ent3d (w := w) (a0 := .bool s) (a1 := .slice A n c) (b0 := .bool s) (b1 := .slice B m d) (c0 := .bool false) (c1 := .slice none 0 0) (Below.refl _ _)
  go_enter Tryz.func93, Tryz.ntmps93
  go_wp2_with fail
  go_region_held3 (fun w' => w'.cell? ⟨w.heap.size, 0, none⟩ = some (.bool s) ∧ w'.cell? ⟨w.heap.size, 1, none⟩ = some (.slice A n c) ∧ w'.cell? ⟨w.heap.size + 1, 1, none⟩ = some (.slice B m d))
    (first
      | exact ⟨ha3.cell0, ha3.cell1, hb3.cell1⟩
      | exact ⟨ha2.cell0, ha2.cell1, hb2.cell1⟩
      | exact ⟨ha1.cell0, ha1.cell1, hb1.cell1⟩
      | exact ⟨ha.cell0, ha.cell1, hb.cell1⟩
      | fail)
    (first
      | (go_at_call 85; (with_reducible refine (radd_calls _ _ _ _ _ _ _ _ _ hx hy hn2 hm2).mono ?_); rintro e w1 ⟨A1, c1, rfl, hr, b1⟩; have ha1 := ha.below b1 ha.lt; have hb1 := hb.below b1 hb.lt)
      | (go_at_call 66; (with_reducible refine (rmake_int _ _ _ _ Z _ (iz_of s hr HZ.out) hl).mono ?_); rintro e w2 ⟨s2, A2, n2, c2, rfl, hc, b2⟩; have ha2 := ha1.below b2 ha1.lt; have hb2 := hb1.below b2 hb1.lt; have hs2 := hs.below (below_then b1 (Nat.le_refl _) b2) hs.lt; have k0 := hs2.cell0; have k1 := hs2.cell1; have k2 := hs2.frozen 0; have k3 := hs2.frozen 1; have ha3 := ha2.past (g' := w.heap.size + 2) (u0 := .bool s2) (u1 := .slice A2 n2 c2) (by omega); have hb3 := hb2.past (g' := w.heap.size + 2) (u0 := .bool s2) (u1 := .slice A2 n2 c2) (by omega))
      | fail)
  have hB := below_then (below_then B0 (Nat.le_refl _) b1) (Nat.le_refl _) b2
  go_wp2_with fail
  refine bodyPost_ret (v := .agg #[.bool s2, .slice A2 n2 c2]) (by simp [results, Tryz.results93, go_sem, (hs2.set0 (.bool s2)).cell0, ((hs2.set0 (.bool s2)).set1 (.slice A2 n2 c2)).cell1]) rfl (gi_end hB (by omega) hs2 hc)
theorem radd_diff_ge (s : Bool) (A B : Option Addr) (n m c d : Nat) (xs ys : List Nat) (Z : Int) (w : World) (h : Rd w A n c xs) (k : Rd w B m d ys) (hn : n ≤ 65536) (hm : m ≤ 65536) (hle : val ys ≤ val xs)
    (hZ : (if s then -((val xs - val ys : Nat) : Int) else ((val xs - val ys : Nat) : Int)) = Z) (hl : (dg (val xs - val ys)).length ≤ 1048576) :
    Calls Tryz.prog 93 #[.agg #[.bool s, .slice A n c], .agg #[.bool (!s), .slice B m d]] w (GI w Z) := by
  have h1 := rd_alloc (rd_alloc (rd_alloc h (EI s A n c)) (EI (!s) B m d)) E0
  have k1 := rd_alloc (rd_alloc (rd_alloc k (EI s A n c)) (EI (!s) B m d)) E0
  have HZ := hide hZ
  clear hZ
  go_enter Tryz.func93, Tryz.ntmps93
  go_wp2_with fail
  refine (rsub_ge _ _ _ _ _ _ _ _ _ h1 k1 (by omega) (by omega) hle).mono ?_
  rintro e w2 ⟨A2, c2, rfl, hr2, b2⟩
  obtain ⟨B1, ha2, hb2, hs0⟩ := ent3 b2
  have a02 := ha2.cell0
  go_wp2_with fail
  refine (rmake_int s _ _ _ Z _ (iz_of s hr2 HZ.out) hl).mono ?_
  rintro e w3 ⟨s3, A3, n3, c3, rfl, hc, b3⟩
  have hs := hs0.below b3 hs0.lt
  have hB := below_then B1 (Nat.le_refl _) b3
  have k0_ := hs.cell0
  have k1_ := hs.cell1
  have k2_ := hs.frozen 0
  have k3_ := hs.frozen 1
  go_wp2_with fail
  refine bodyPost_ret (v := .agg #[.bool s3, .slice A3 n3 c3]) (by simp [results, Tryz.results93, go_sem, (hs.set0 (.bool s3)).cell0, ((hs.set0 (.bool s3)).set1 (.slice A3 n3 c3)).cell1]) rfl (gi_end hB (by omega) hs hc)

theorem radd_diff_lt (s : Bool) (A B : Option Addr) (n m c d : Nat) (xs ys : List Nat) (Z : Int) (w : World) (h : Rd w A n c xs) (k : Rd w B m d ys) (hn : n ≤ 65536) (hm : m ≤ 65536) (hlt : val xs < val ys)
    (hZ : (if (!s) then -((val ys - val xs : Nat) : Int) else ((val ys - val xs : Nat) : Int)) = Z) (hl : (dg (val ys - val xs)).length ≤ 1048576) :
    Calls Tryz.prog 93 #[.agg #[.bool s, .slice A n c], .agg #[.bool (!s), .slice B m d]] w (GI w Z) := by
  have h1 := rd_alloc (rd_alloc (rd_alloc h (EI s A n c)) (EI (!s) B m d)) E0
  have k1 := rd_alloc (rd_alloc (rd_alloc k (EI s A n c)) (EI (!s) B m d)) E0
  have hle := Nat.le_of_lt hlt
  have HZ := hide hZ
  clear hZ
  go_enter Tryz.func93, Tryz.ntmps93
  go_wp2_with fail
  refine (rsub_e0 _ _ _ _ _ _ _ _ _ h1 k1 (by omega) (by omega) hlt).mono ?_
  rintro e w2 ⟨A2, c2, rfl, -, b2⟩
  have h2 := h1.below b2
  have k2 := k1.below b2
  obtain ⟨B1, ha2, hb2, hs0⟩ := ent3 b2
  have a1 := ha2.cell1
  have e1 := hb2.cell1
  go_wp2_with fail
  refine (rsub_ge _ _ _ _ _ _ _ _ _ k2 h2 (by omega) (by omega) hle).mono ?_
  rintro e w3 ⟨A3, c3, rfl, hr2, b3⟩
  have hb3 := hb2.below b3 hb2.lt
  have e02 := hb3.cell0
  go_wp2_with fail
  refine (rmake_int (!s) _ _ _ Z _ (iz_of (!s) hr2 HZ.out) hl).mono ?_
  rintro e w4 ⟨s3, A3, n3, c3, rfl, hc, b4⟩
  have b34 := below_then b3 (Nat.le_refl _) b4
  have hs := hs0.below b34 hs0.lt
  have hB := below_then B1 (Nat.le_refl _) b34
  have k0_ := hs.cell0
  have k1_ := hs.cell1
  have k2_ := hs.frozen 0
  have k3_ := hs.frozen 1
  go_wp2_with fail
  refine bodyPost_ret (v := .agg #[.bool s3, .slice A3 n3 c3]) (by simp [results, Tryz.results93, go_sem, (hs.set0 (.bool s3)).cell0, ((hs.set0 (.bool s3)).set1 (.slice A3 n3 c3)).cell1]) rfl (gi_end hB (by omega) hs hc)

theorem radd_int (s t : Bool) (A B : Option Addr) (n m c d : Nat) (z y Z : Int) (w : World) (hZ : z + y = Z) (h : Iz w s A n c z) (k : Iz w t B m d y) (hn : n ≤ 65536) (hm : m ≤ 65536) :
    Calls Tryz.prog 93 #[.agg #[.bool s, .slice A n c], .agg #[.bool t, .slice B m d]] w (GI w Z) := by
  obtain ⟨xs, h, hx⟩ := h
  obtain ⟨ys, k, hy⟩ := k
  have lx := rd_lt h hn
  have ly := rd_lt k hm
  have lxy := add_pw lx ly
  have l1 : (dg (val xs + val ys)).length ≤ 1048576 := Nat.le_trans (dg_le lxy) (by omega)
  have l2 : (dg (val xs - val ys)).length ≤ 1048576 := Nat.le_trans (dg_le (Nat.lt_of_le_of_lt (Nat.sub_le _ _) lx)) (by omega)
  have l3 : (dg (val ys - val xs)).length ≤ 1048576 := Nat.le_trans (dg_le (Nat.lt_of_le_of_lt (Nat.sub_le _ _) ly)) (by omega)
  clear lx ly lxy
  by_cases e : t = s
  · subst e
    refine radd_same t A B n m c d xs ys Z w h k hn hm ?_ l1
    rw [← hZ, ← hx, ← hy]
    cases t <;> simp [iv] <;> omega
  · obtain rfl : t = !s := by cases s <;> cases t <;> simp_all
    rcases Nat.lt_or_ge (val xs) (val ys) with hlt | hle
    · refine radd_diff_lt s A B n m c d xs ys Z w h k hn hm hlt ?_ l3
      rw [← hZ, ← hx, ← hy]
      cases s <;> simp [iv] <;> omega
    · refine radd_diff_ge s A B n m c d xs ys Z w h k hn hm hle ?_ l2
      rw [← hZ, ← hx, ← hy]
      cases s <;> simp [iv] <;> omega
end Go.Proofs.YtnddhohjfjlaiaaGreatDoor

/-
  Integers: the specification's Sub, Sign, Cmp; Mul of both.
-/
namespace Go.Proofs.YtnddhohjfjlaiaaGreatDoor
open Go.RowKit
set_option linter.unusedVariables false
set_option linter.unusedSimpArgs false

theorem Cz.zero {w : World} {s : Bool} {A : Option Addr} {n c : Nat} {z : Int} (h : Cz w s A n c z) : n = 0 ↔ z = 0 := by
  rw [← h.1.len, List.length_eq_zero_iff, dg_nil_iff]
  omega
theorem iv_mul (s t : Bool) (xs ys : List Nat) : (if (!s == t) = true then -((val xs * val ys : Nat) : Int) else ((val xs * val ys : Nat) : Int)) = iv s xs * iv t ys := by
  cases s <;> cases t <;> simp [iv, Int.neg_mul, Int.mul_neg]
theorem rsign_int (s : Bool) (A : Option Addr) (n c : Nat) (z r : Int) (w : World) (hr : sz z = r) (h : Iz w s A n c z) (hn : n ≤ 1048576) :
    Calls Tryz.prog 72 #[.agg #[.bool s, .slice A n c]] w (Asks w (.int .i64 r)) := by
  have h1 := h.alloc (EI s A n c)
  have HR := hide hr
  clear hr
  go_enter Tryz.func72, Tryz.ntmps72
  go_wp2_with fail
  refine (rmake_int _ _ _ _ _ _ h1 hn).mono ?_
  rintro e w1 ⟨s1, A1, n1, c1, rfl, hc, b1⟩
  obtain ⟨hB, ha⟩ := ent1 b1
  have hB2 := below_stor (g := w.heap.size) (u0 := .bool s1) (u1 := .slice A1 n1 c1) hB (Nat.le_refl _)
  have hst := ha.stor (u0 := .bool s1) (u1 := .slice A1 n1 c1)
  have a0 := ha.cell0
  have a1 := ha.cell1
  have a2 := ha.frozen 0
  have a3 := ha.frozen 1
  have e0 := hst.cell0
  have e1 := hst.cell1
  have hz0 := hc.zero
  have hz1 := hc.2
  by_cases h0 : z = 0
  · have hz2 : ((n1 : Int) == 0) = true := by simp; omega
    have er : r = 0 := by rw [← HR.out, sz, if_pos h0]
    subst er
    clear hz0 hz1 h0 HR hc
    go_wp2
    go_ret
    exact ⟨rfl, hB2⟩
  · have hz2 : ((n1 : Int) == 0) = false := by simp; omega
    have er : r = if s1 then -1 else 1 := by rw [← HR.out, sz, if_neg h0, hz1]; simp
    subst er
    clear hz0 hz1 h0 HR
    have HC := hide hc
    clear hc
    cases s1
    all_goals
      go_wp2
      go_ret
      exact ⟨rfl, hB2⟩
end Go.Proofs.YtnddhohjfjlaiaaGreatDoor

/-
  Integers: Cmp, Of, Int of both.
-/
namespace Go.Proofs.YtnddhohjfjlaiaaGreatDoor
open Go.RowKit
set_option linter.unusedVariables false
set_option linter.unusedSimpArgs false

theorem compare_sz {z y : Int} (h : sz z ≠ sz y) : Lib.compareInt (sz z) (sz y) = sz (z - y) := by
  unfold Lib.compareInt
  unfold sz at h ⊢
  (repeat' split) <;> (repeat' split at h) <;> omega
theorem sg_sz_neg {z y : Int} (hz : z < 0) (hy : y < 0) : sg y.natAbs z.natAbs = sz (z - y) := by
  unfold sg sz
  (repeat' split) <;> omega
theorem sg_sz_pos {z y : Int} (hz : 0 ≤ z) (hy : 0 ≤ y) : sg z.natAbs y.natAbs = sz (z - y) := by
  unfold sg sz
  (repeat' split) <;> omega
theorem sz_neg {z : Int} : sz z < 0 ↔ z < 0 := by
  unfold sz
  (repeat' split) <;> omega
theorem cmp_at (A B : Option Addr) (n m c d : Nat) (xs ys : List Nat) (w : World) (X Y : Nat) (r : Int) (hx : X = val xs) (hy : Y = val ys) (h : Rd w A n c xs) (h2 : Rd w B m d ys) (hn : n ≤ 1048576) (hm : m ≤ 1048576) (hr : sg X Y = r) :
    Calls Tryz.prog 65 #[.slice A n c, .slice B m d] w fun e w' => e = .returned (.int .i64 r) ∧ Below w.heap.size w w' := by
  subst hx hy
  exact cmp_b A B n m c d xs ys w r h h2 hn hm hr
theorem cmp_int (s t : Bool) (A B : Option Addr) (n m c d : Nat) (z y r : Int) (w : World) (hr : sz (z - y) = r) (h : Iz w s A n c z) (k : Iz w t B m d y) (hn : n ≤ 1048576) (hm : m ≤ 1048576) :
    Calls Tryz.prog 40 #[.agg #[.bool s, .slice A n c], .agg #[.bool t, .slice B m d]] w (Asks w (.int .i64 r)) := by
  have h1 := (h.alloc (EI s A n c)).alloc (EI t B m d)
  have k1 := (k.alloc (EI s A n c)).alloc (EI t B m d)
  obtain ⟨p, hp⟩ : ∃ p, sz z = p := ⟨_, rfl⟩
  obtain ⟨q, hq⟩ : ∃ q, sz y = q := ⟨_, rfl⟩
  obtain ⟨xs, hx, ex⟩ := h
  obtain ⟨ys, hy, ey⟩ := k
  have ax : z.natAbs = val xs := by rw [← ex, iv_abs]
  have ay : y.natAbs = val ys := by rw [← ey, iv_abs]
  have HX := hide ax
  have HY := hide ay
  have HR := hide hr
  have HP := hide hp
  have HQ := hide hq
  clear ex ey ax ay hr hp hq
  have h1 := h1.below (Below.refl _ _).drew
  have k1 := k1.below (Below.refl _ _).drew
  obtain ⟨B0, ha, hb⟩ := ent2 (w := w) (a0 := .bool s) (a1 := .slice A n c) (b0 := .bool t) (b1 := .slice B m d) ((Below.refl _ _).drew)
  go_enter Tryz.func40, Tryz.ntmps40
  go_wp2_with fail
  go_region_held3 (fun w' => w'.cell? ⟨w.heap.size, 0, none⟩ = some (.bool s) ∧ w'.cell? ⟨w.heap.size, 1, none⟩ = some (.slice A n c) ∧ w'.cell? ⟨w.heap.size + 1, 0, none⟩ = some (.bool t) ∧ w'.cell? ⟨w.heap.size + 1, 1, none⟩ = some (.slice B m d))
    (first
      | exact ⟨ha2.cell0, ha2.cell1, hb2.cell0, hb2.cell1⟩
      | exact ⟨ha1.cell0, ha1.cell1, hb1.cell0, hb1.cell1⟩
      | exact ⟨ha.cell0, ha.cell1, hb.cell0, hb.cell1⟩
      | fail)
    (first
      | (go_at_call 63; (with_reducible refine (sign_int _ _ _ _ _ _ _ HP.out h1 hn).mono ?_); rintro e w1 ⟨rfl, b1⟩; have ha1 := ha.below b1 ha.lt; have hb1 := hb.below b1 hb.lt; have k2 := k1.below b1)
      | (go_at_call 63; (with_reducible refine (sign_int _ _ _ _ _ _ _ HQ.out k2 hm).mono ?_); rintro e w2 ⟨rfl, b2⟩; have ha2 := ha1.below b2 ha1.lt; have hb2 := hb1.below b2 hb1.lt)
      | fail)
  have B2 := below_then (below_then B0 (Nat.le_refl _) b1) (Nat.le_refl _) b2
  have hx2 := hx.below B2
  have hy2 := hy.below B2
  have a0 := ha2.cell0
  have a1 := ha2.cell1
  have c0 := hb2.cell0
  have c1 := hb2.cell1
  by_cases hpq : p = q
  · have e0 : (p != q) = false := by simp [hpq]
    have HPQ := hide hpq
    clear hpq
    by_cases hp0 : p < 0
    · have e1 : decide (p < 0) = true := by simp [hp0]
      have hrr : sg y.natAbs z.natAbs = r := (sg_sz_neg (sz_neg.1 (by rw [HP.out]; exact hp0)) (sz_neg.1 (by rw [HQ.out, ← HPQ.out]; exact hp0))).trans HR.out
      have HRR := hide hrr
      clear hrr hp0
      go_wp2_with fail
      refine (cmp_at _ _ _ _ _ _ _ _ _ _ _ r HY.out HX.out hy2 hx2 hm hn HRR.out).mono ?_
      rintro e w3 ⟨rfl, b3⟩
      go_wp2
      go_ret
      exact ⟨rfl, below_then B2 (Nat.le_refl _) b3⟩
    · have e1 : decide (p < 0) = false := by simp; omega
      have hz0 : ¬ z < 0 := fun h => hp0 (by rw [← HP.out]; exact sz_neg.2 h)
      have hy0 : ¬ y < 0 := fun h => hp0 (by rw [HPQ.out, ← HQ.out]; exact sz_neg.2 h)
      have hrr : sg z.natAbs y.natAbs = r := (sg_sz_pos (by omega) (by omega)).trans HR.out
      have HRR := hide hrr
      clear hrr hp0 hz0 hy0
      go_wp2_with fail
      refine (cmp_at _ _ _ _ _ _ _ _ _ _ _ r HX.out HY.out hx2 hy2 hn hm HRR.out).mono ?_
      rintro e w3 ⟨rfl, b3⟩
      go_wp2
      go_ret
      exact ⟨rfl, below_then B2 (Nat.le_refl _) b3⟩
  · have e0 : (p != q) = true := by simp [hpq]
    have hrr : Lib.compareInt p q = r := by rw [← HP.out, ← HQ.out, compare_sz (by rw [HP.out, HQ.out]; exact hpq), HR.out]
    have HRR := hide hrr
    clear hrr hpq
    go_wp2_with fail
    refine (Tryz.cmp_Compare_int p q _).mono ?_
    rintro e w3 ⟨rfl, rfl⟩
    rw [HRR.out]
    go_wp2
    go_ret
    exact ⟨rfl, B2⟩
theorem rof_at (i : Int) (k : Nat) (w : World) (hi : i = (k : Int)) (hk : k ≤ 18446744073709551615) : Calls Tryz.prog 67 #[.int .u64 i] w (Gives w (dg k)) := by
  subst hi
  exact rof_calls k w hk
theorem rofint_int (x : Int) (w : World) (h1 : -9223372036854775808 ≤ x) (h2 : x ≤ 9223372036854775807) : Calls Tryz.prog 43 #[.int .i64 x] w (GI w x) := by
  have hl : (dg x.natAbs).length ≤ 1048576 := Nat.le_trans (dg_le (k := 2) (by show x.natAbs < 4294967296 * (4294967296 * 1); omega)) (by omega)
  by_cases h0 : x < 0
  · have e0 : decide (x < 0) = true := by simp [h0]
    have e1 : IntKind.u64.wrap (-IntKind.u64.wrap x) = ((x.natAbs : Nat) : Int) := by rw [IntKind.wrap_u64, IntKind.wrap_u64]; omega
    have e2 : (if true = true then -((x.natAbs : Nat) : Int) else ((x.natAbs : Nat) : Int)) = x := by simp; omega
    have e3 : x.natAbs ≤ 18446744073709551615 := by omega
    have H1 := hide e1
    have H2 := hide e2
    clear h0 e1 e2
    go_enter Tryz.func43, Tryz.ntmps43
    go_wp2_with fail
    with_reducible refine (rof_at _ _ _ H1.out e3).mono ?_
    rintro e w1 ⟨A1, c1, rfl, hr1, b1⟩
    go_wp2_with fail
    refine (rmake_int true _ _ _ x _ (iz_of true hr1 H2.out) hl).mono ?_
    rintro e w2 ⟨s2, A2, n2, c2, rfl, hc, b2⟩
    obtain ⟨hB, hs⟩ := ent1 (below_then b1 (Nat.le_refl _) b2)
    have k0_ := hs.cell0
    have k1_ := hs.cell1
    have k2_ := hs.frozen 0
    have k3_ := hs.frozen 1
    go_wp2_with fail
    refine bodyPost_ret (v := .agg #[.bool s2, .slice A2 n2 c2]) (by simp [results, Tryz.results43, go_sem, (hs.set0 (.bool s2)).cell0, ((hs.set0 (.bool s2)).set1 (.slice A2 n2 c2)).cell1]) rfl (gi_end hB (Nat.le_refl _) hs hc)
  · have e0 : decide (x < 0) = false := by simp; omega
    have e1 : IntKind.u64.wrap x = ((x.natAbs : Nat) : Int) := by rw [IntKind.wrap_u64]; omega
    have e2 : (if false = true then -((x.natAbs : Nat) : Int) else ((x.natAbs : Nat) : Int)) = x := by simp; omega
    have e3 : x.natAbs ≤ 18446744073709551615 := by omega
    have H1 := hide e1
    have H2 := hide e2
    clear h0 e1 e2
    go_enter Tryz.func43, Tryz.ntmps43
    go_wp2_with fail
    with_reducible refine (rof_at _ _ _ H1.out e3).mono ?_
    rintro e w1 ⟨A1, c1, rfl, hr1, b1⟩
    go_wp2_with fail
    refine (rmake_int false _ _ _ x _ (iz_of false hr1 H2.out) hl).mono ?_
    rintro e w2 ⟨s2, A2, n2, c2, rfl, hc, b2⟩
    obtain ⟨hB, hs⟩ := ent1 (below_then b1 (Nat.le_refl _) b2)
    have k0_ := hs.cell0
    have k1_ := hs.cell1
    have k2_ := hs.frozen 0
    have k3_ := hs.frozen 1
    go_wp2_with fail
    refine bodyPost_ret (v := .agg #[.bool s2, .slice A2 n2 c2]) (by simp [results, Tryz.results43, go_sem, (hs.set0 (.bool s2)).cell0, ((hs.set0 (.bool s2)).set1 (.slice A2 n2 c2)).cell1]) rfl (gi_end hB (Nat.le_refl _) hs hc)
/-- The number as an int. -/
def i64Of (z : Int) : Int × Bool := if -9223372036854775808 ≤ z ∧ z ≤ 9223372036854775807 then (z, true) else (0, false)
theorem u64_iff {xs : List Nat} (hs : Sm xs) : tlen xs ≤ 2 ↔ val xs ≤ 18446744073709551615 := by
  constructor
  · intro h
    have h1 := lt_of_len (n := val xs) (k := 2) (by rw [len_dg_val hs]; exact h)
    have h2 : pw 2 = 18446744073709551616 := by decide
    omega
  · intro h
    have h2 : pw 2 = 18446744073709551616 := by decide
    have h1 := len_dg_le (n := val xs) (k := 2) (by omega)
    rwa [len_dg_val hs] at h1
end Go.Proofs.YtnddhohjfjlaiaaGreatDoor

/-
  Integers: the specification's Int, DivMod.
-/
namespace Go.Proofs.YtnddhohjfjlaiaaGreatDoor
open Go.RowKit
set_option linter.unusedVariables false
set_option linter.unusedSimpArgs false

theorem ediv_of {z y q r : Int} (h : q * y + r = z) (h0 : 0 ≤ r) (h1 : r < y.natAbs) : z / y = q ∧ z % y = r := by
  have hy : y ≠ 0 := by intro e; subst e; simp at h1; omega
  have hr : r / y = 0 := by
    rcases Int.lt_or_gt_of_ne hy with h2 | h2
    · rw [← Int.neg_neg y, Int.ediv_neg, Int.ediv_eq_zero_of_lt h0 (by omega)]; rfl
    · exact Int.ediv_eq_zero_of_lt h0 (by omega)
  have hq : z / y = q := by rw [← h, Int.add_comm, Int.add_mul_ediv_right _ _ hy, hr]; omega
  refine ⟨hq, ?_⟩
  rw [Int.emod_def, hq, ← h, Int.mul_comm y q]
  omega
theorem dm_plain {X Y : Nat} (s t : Bool) (hY : 0 < Y) (hs : s = false ∨ X % Y = 0) :
    (if (!s == t) = true then -((X / Y : Nat) : Int) else ((X / Y : Nat) : Int)) = (if s then -(X : Int) else X) / (if t then -(Y : Int) else Y) ∧ ((X % Y : Nat) : Int) = (if s then -(X : Int) else X) % (if t then -(Y : Int) else Y) := by
  have h1 := Nat.div_add_mod X Y
  have h2 := Nat.mod_lt X hY
  obtain ⟨q, hq⟩ : ∃ q, X / Y = q := ⟨_, rfl⟩
  obtain ⟨r, hr⟩ : ∃ r, X % Y = r := ⟨_, rfl⟩
  rw [hq, hr] at h1
  rw [hr] at h2
  rw [hq, hr]
  rw [hr] at hs
  have h3 : (q : Int) * (Y : Int) + r = X := by rw [← h1]; push_cast; rw [Int.mul_comm]
  have key := ediv_of (z := (if s then -(X : Int) else X)) (y := (if t then -(Y : Int) else Y)) (q := if (!s == t) = true then -(q : Int) else q) (r := r) (by
    cases s <;> cases t <;> simp [Int.neg_mul, Int.mul_neg] at hs ⊢ <;> omega) (by omega) (by cases t <;> simp <;> omega)
  exact ⟨key.1.symm, key.2.symm⟩
theorem dm_floor {X Y : Nat} (t : Bool) (hY : 0 < Y) (h0 : 0 < X % Y) :
    (if (!true == t) = true then -((X / Y + 1 : Nat) : Int) else ((X / Y + 1 : Nat) : Int)) = (-(X : Int)) / (if t then -(Y : Int) else Y) ∧ ((Y - X % Y : Nat) : Int) = (-(X : Int)) % (if t then -(Y : Int) else Y) := by
  have h1 := Nat.div_add_mod X Y
  have h2 := Nat.mod_lt X hY
  obtain ⟨q, hq⟩ : ∃ q, X / Y = q := ⟨_, rfl⟩
  obtain ⟨r, hr⟩ : ∃ r, X % Y = r := ⟨_, rfl⟩
  rw [hq, hr] at h1
  rw [hr] at h2 h0
  rw [hq, hr]
  have h3 : (q : Int) * (Y : Int) + r = X := by rw [← h1]; push_cast; rw [Int.mul_comm]
  have h4 : ((q + 1 : Nat) : Int) * (Y : Int) = (q : Int) * Y + Y := by push_cast; rw [Int.add_mul, Int.one_mul]
  have key := ediv_of (z := -(X : Int)) (y := (if t then -(Y : Int) else Y)) (q := if (!true == t) = true then -((q + 1 : Nat) : Int) else ((q + 1 : Nat) : Int)) (r := ((Y - r : Nat) : Int)) (by
    cases t
    · rw [if_pos (by decide), if_neg (by decide), Int.neg_mul, h4]; omega
    · rw [if_neg (by decide), if_pos rfl, Int.mul_neg, h4]; omega) (by omega) (by cases t <;> simp <;> omega)
  exact ⟨key.1.symm, key.2.symm⟩
end Go.Proofs.YtnddhohjfjlaiaaGreatDoor

/-
  Integers: DivMod.
-/
namespace Go.Proofs.YtnddhohjfjlaiaaGreatDoor
open Go.RowKit
set_option linter.unusedVariables false
set_option linter.unusedSimpArgs false

/-- What a function hands back that makes two numbers and an error. -/
def GII (w : World) (z y r : Int) (e : Ending) (w' : World) : Prop := ∃ s A n c t B m d, e = .returned (.tuple #[.agg #[.bool s, .slice A n c], .agg #[.bool t, .slice B m d], .int .i64 r]) ∧ Cz w' s A n c z ∧ Cz w' t B m d y ∧ Below w.heap.size w w'
theorem gii_end {w w2 : World} {g : Nat} {s s0 t t0 : Bool} {A A0 B B0 : Option Addr} {n c n0 c0 m d m0 d0 : Nat} {z y : Int} (r : Int) (hB : Below w.heap.size w w2) (hg : w.heap.size ≤ g) (hs : Sb w2 g (.bool s0) (.slice A0 n0 c0)) (ht : Sb w2 (g + 1) (.bool t0) (.slice B0 m0 d0)) (hc : Cz w2 s A n c z) (hd : Cz w2 t B m d y) :
    GII w z y r (.returned (.tuple #[.agg #[.bool s, .slice A n c], .agg #[.bool t, .slice B m d], .int .i64 r])) ((((w2.setCell ⟨g, 0, none⟩ (.bool s)).setCell ⟨g, 1, none⟩ (.slice A n c)).setCell ⟨g + 1, 0, none⟩ (.bool t)).setCell ⟨g + 1, 1, none⟩ (.slice B m d)) := by
  have ht2 := ht.past (g' := g) (u0 := .bool s) (u1 := .slice A n c) (by omega)
  exact ⟨_, _, _, _, _, _, _, _, rfl, (hc.stor hs).stor ht2, (hd.stor hs).stor ht2, below_stor (below_stor hB hg) (by omega)⟩
theorem divmod_len (A B : Option Addr) (n m c d : Nat) (xs ys : List Nat) (w : World) (LQ LR : Nat) (hq : (dg (val xs / val ys)).length = LQ) (hr : (dg (val xs % val ys)).length = LR) (h0 : 0 < val ys) (h : Rd w A n c xs) (h2 : Rd w B m d ys) (hn : n ≤ 65536) (hm : m ≤ 65536) :
    Calls Tryz.prog 79 #[.slice A n c, .slice B m d] w fun e w' => ∃ A1 c1 B1 d1, e = .returned (.tuple #[.slice A1 LQ c1, .slice B1 LR d1, .int .i64 0]) ∧ Rd w' A1 LQ c1 (dg (val xs / val ys)) ∧ Rd w' B1 LR d1 (dg (val xs % val ys)) ∧ Below w.heap.size w w' := by
  subst hq hr
  exact divmod_calls A B n m c d xs ys w h h2 hn hm h0
end Go.Proofs.YtnddhohjfjlaiaaGreatDoor

/-
  Integers: DivMod where the remainder is turned; few.
-/
namespace Go.Proofs.YtnddhohjfjlaiaaGreatDoor
open Go.RowKit
set_option linter.unusedVariables false
set_option linter.unusedSimpArgs false

theorem add_len (A B : Option Addr) (n m c d : Nat) (X Y Z L : Nat) (w : World) (hZ : X + Y = Z) (hL : (dg Z).length = L) (h : Rd w A n c (dg X)) (h2 : Rd w B m d (dg Y)) (hn : n ≤ 1048576) (hm : m ≤ 1048576) :
    Calls Tryz.prog 80 #[.slice A n c, .slice B m d] w fun e w' => ∃ A1 c1, e = .returned (.slice A1 L c1) ∧ Rd w' A1 L c1 (dg Z) ∧ Below w.heap.size w w' := by
  subst hL
  exact add_at A B n m c d _ _ w X Y Z (val_dg X) (val_dg Y) hZ h h2 hn hm
end Go.Proofs.YtnddhohjfjlaiaaGreatDoor

/-
  awake and few of the integer statements.
-/
namespace Go.Proofs.YtnddhohjfjlaiaaGreatDoor
open Go.RowKit
set_option linter.unusedVariables false
set_option linter.unusedSimpArgs false

theorem i64_in {z : Int} (h1 : -9223372036854775808 ≤ z) (h2 : z ≤ 9223372036854775807) : i64Of z = (z, true) := if_pos ⟨h1, h2⟩
theorem Cz.big {w : World} {s : Bool} {A : Option Addr} {n c : Nat} {z : Int} (h : Cz w s A n c z) (hz : z.natAbs < 4294967296) (k : Nat) (hk : 1 ≤ k) : n ≤ k := Nat.le_trans (h.len (k := 1) (by simpa [pw] using hz)) hk
theorem Cz.drew {w : World} {s : Bool} {A : Option Addr} {n c : Nat} {z : Int} (h : Cz w s A n c z) : Cz w.drew s A n c z := h.below (Below.refl _ _).drew
theorem Iz.drew {w : World} {s : Bool} {A : Option Addr} {n c : Nat} {z : Int} (h : Iz w s A n c z) : Iz w.drew s A n c z := h.below (Below.refl _ _).drew
theorem Rd.alloc {w : World} {A : Option Addr} {n c : Nat} {xs : List Nat} (h : Rd w A n c xs) (o : Obj) : Rd (w.alloc o) A n c xs := rd_alloc h o
theorem iz_nil (w : World) (s : Bool) (A : Option Addr) (c : Nat) : Iz w s A 0 c 0 := ⟨[], Rd.empty _ _ _, by cases s <;> rfl⟩
end Go.Proofs.YtnddhohjfjlaiaaGreatDoor
