/-
  The program's descend.
-/
import Derived.Test.YtabgniijlofapaaQ9
import Derived.Test.YtabgniijlofapaaM6
namespace Go.Proofs.Ytabgniijlofapaa
open Go.RowKit
set_option linter.unusedVariables false
set_option linter.unusedSimpArgs false

/-- A number that is not negative, in the canonical form; of the old memory only the block g may have changed. -/
def Ds (w : World) (g : Nat) (r : Rat) (e : Ending) (w' : World) : Prop := ∃ A n c B m d, e = .returned (.agg #[.bool false, .slice A n c, .slice B m d]) ∧ Cq w' false A n c B m d r ∧ w.grownBy w' (some g)
theorem grown_set2 {a w : World} {row : Option Nat} (h : a.grownBy w row) {b : Nat} (hb : a.heap.size ≤ b) (i : Nat) (v : Value) : a.grownBy (w.setCell ⟨b, i, none⟩ v) row :=
  ⟨h.os, h.tape, h.output, Nat.le_trans h.size (by simp [World.setCell]), fun j hj hr => (Below.heap_setCell w ⟨b, i, none⟩ v j (by show j ≠ b; omega)).trans (h.block j hj hr)⟩
theorem grown_storQ {a w : World} {row : Option Nat} (h : a.grownBy w row) {b : Nat} (hb : a.heap.size ≤ b) (u0 u1 u2 : Value) : a.grownBy (((w.setCell ⟨b, 0, none⟩ u0).setCell ⟨b, 1, none⟩ u1).setCell ⟨b, 2, none⟩ u2) row :=
  grown_set2 (grown_set2 (grown_set2 h hb _ _) hb _ _) hb _ _
theorem Sq.grown {w w' : World} {b g : Nat} {v0 v1 v2 : Value} (h : Sq w b v0 v1 v2) (hg : w.grownBy w' (some g)) (hne : b ≠ g) : Sq w' b v0 v1 v2 := (hg.block b h.lt (by intro e; exact hne (Option.some.inj e))).trans h
theorem Ny.grownP {w w' : World} {g : Nat} {A : Option Addr} {n c k X : Nat} (h : Ny w A n c k X) (hg : w.grownBy w' (some g)) {s t : Bool} {B C B' C' : Option Addr} {l d l' d' j e j' e' : Nat} (hs : Sp w g (.bool s) (.slice B l d) (.slice C l' d') (.bool t) (.slice B' j e) (.slice C' j' e')) : Ny w' A n c k X :=
  ⟨h.1, h.2.grown hg (h.2.awayP hs)⟩
theorem grown_alloc {w w' : World} {row : Option Nat} {o : Obj} (h : (w.alloc o).grownBy w' row) : w.grownBy w' row := Go.Lib.grownBy_trans (World.grownBy_alloc w o row) h
theorem below_grown {a w w' : World} {row : Option Nat} (h : Below a.heap.size a w) (hg : w.grownBy w' row) : a.grownBy w' row :=
  Go.Lib.grownBy_trans (Go.Lib.grownBy_below (World.grownBy.refl a row) h) hg
theorem descend_stop (g : Nat) (w : World) (K V : Nat) (r : Rat) (hV : ((V : Int) : Rat) = r)
    (hent : Calls Try.prog 97 #[.pointer (some ⟨g, 0, none⟩)] (w.alloc EQ0) fun e w' => ∃ A1 n1 c1, e = .returned (.tuple #[.slice A1 n1 c1, .bool false]) ∧ Ny w' A1 n1 c1 (K + 1) V ∧ Below (w.alloc EQ0).heap.size (w.alloc EQ0) w') :
    Calls Try.prog 73 #[.pointer (some ⟨g, 0, none⟩)] w (Ds w g r) := by
  have H := hide hent
  have HV := hide hV
  clear hent hV
  have hb := Sq.new w (.bool false) (.slice none 0 0) (.slice none 0 0)
  go_enter Try.func73, Try.ntmps73
  go_wp2_with fail
  refine H.out.mono ?_
  rintro e w1 ⟨A1, n1, c1, rfl, hy, b1⟩
  have hs := hb.below b1 (by simp)
  have z0 := hs.cell0
  have z1 := hs.cell1
  have z2 := hs.cell2
  have f0 := hs.frozen 0
  have f1 := hs.frozen 1
  have f2 := hs.frozen 2
  go_wp2_with fail
  have hc : Cq w1 false A1 n1 c1 none 0 0 r := HV.out ▸ cq_int (z := (V : Int)) ⟨hy.2, by simp⟩
  refine bodyPost_ret (v := .agg #[.bool false, .slice A1 n1 c1, .slice none 0 0]) (by simp [results, Try.results73, go_sem, (hs.set0 (.bool false)).cell0, ((hs.set0 (.bool false)).set1 (.slice A1 n1 c1)).cell1, (((hs.set0 (.bool false)).set1 (.slice A1 n1 c1)).set2 (.slice none 0 0)).cell2]) rfl
    ⟨_, _, _, _, _, _, rfl, hc.storQ hs _ _ _, grown_storQ (grown_alloc (Go.Lib.grownBy_below (World.grownBy.refl _ _) b1)) (Nat.le_refl _) _ _ _⟩
theorem descend_go (g : Nat) (w : World) (K V : Nat) (y r : Rat) (p' q' : Rat) (hg : g < w.heap.size) (hr : ((V : Int) : Rat) + 1 / y = r) (h1 : 1 < y) (hys : Qs K y) (hK : K ≤ 1000) (hK1 : 1 ≤ K)
    (hent : Calls Try.prog 97 #[.pointer (some ⟨g, 0, none⟩)] (w.alloc EQ0) fun e w' => ∃ A1 n1 c1, e = .returned (.tuple #[.slice A1 n1 c1, .bool true]) ∧ Ny w' A1 n1 c1 (K + 1) V ∧ (w.alloc EQ0).grownBy w' (some g) ∧ Spn w' g K p' q')
    (IH : ∀ w' : World, Spn w' g K p' q' → Calls Try.prog 73 #[.pointer (some ⟨g, 0, none⟩)] w' (Ds w' g y)) :
    Calls Try.prog 73 #[.pointer (some ⟨g, 0, none⟩)] w (Ds w g r) := by
  have H := hide hent
  have HI := hide IH
  have HR := hide hr
  clear hent IH hr
  have hb := Sq.new w (.bool false) (.slice none 0 0) (.slice none 0 0)
  have ne : w.heap.size ≠ g := by omega
  go_enter Try.func73, Try.ntmps73
  go_wp2_with fail
  refine H.out.mono ?_
  rintro e w1 ⟨A1, n1, c1, rfl, hy, g1, hsp⟩
  have hs1 := hb.grown g1 ne
  have hsp2 := hsp
  obtain ⟨s, t, A, B, A', B', n, c, m, d, n', c', m', d', hp, -⟩ := hsp2
  go_wp2_with fail
  refine (HI.out w1 hsp).mono ?_
  rintro e w2 ⟨A2, n2, c2, B2, m2, d2, rfl, hx, g2⟩
  have hs2 := hs1.grown g2 ne
  have hy2 := (hy.grownP g2 hp).nz
  have g02 := Go.Lib.grownBy_trans (grown_alloc g1) g2
  clear hs1 hy hsp hp g1
  go_wp2_with fail
  refine (leave_q _ _ _ _ _ _ _ _ _ _ K V y r _ HR.out h1 hy2 hx hys hK hK1).mono ?_
  rintro e w3 ⟨s3, A3, n3, c3, B3, m3, d3, rfl, hz, b3⟩
  have hs := hs2.below b3 hs2.lt
  have z0 := hs.cell0
  have z1 := hs.cell1
  have z2 := hs.cell2
  have f0 := hs.frozen 0
  have f1 := hs.frozen 1
  have f2 := hs.frozen 2
  have hr0 : 0 < r := by
    rw [← HR.out]
    have a1 : (0 : Rat) ≤ ((V : Int) : Rat) := by rw [Rat.intCast_natCast]; exact Rat.natCast_nonneg
    have a2 := one_div_pos (a := y) (by grind)
    grind
  obtain rfl : s3 = false := by rw [hz.2.2, decide_eq_false_iff_not]; have := num_pos hr0; omega
  go_wp2_with fail
  refine bodyPost_ret (v := .agg #[.bool false, .slice A3 n3 c3, .slice B3 m3 d3]) (by simp [results, Try.results73, go_sem, (hs.set0 (.bool false)).cell0, ((hs.set0 (.bool false)).set1 (.slice A3 n3 c3)).cell1, (((hs.set0 (.bool false)).set1 (.slice A3 n3 c3)).set2 (.slice B3 m3 d3)).cell2]) rfl
    ⟨_, _, _, _, _, _, rfl, hz.storQ hs _ _ _, grown_storQ (Go.Lib.grownBy_below g02 b3) (Nat.le_refl _) _ _ _⟩
theorem spn_of {w : World} {g K : Nat} {s t : Bool} {A B A' B' : Option Addr} {n c m d n' c' m' d' X D X' D' : Nat} (hs : Sp w g (.bool s) (.slice A n c) (.slice B m d) (.bool t) (.slice A' n' c') (.slice B' m' d'))
    (h1 : Nz w A n c K X) (h2 : Nz w B m d K D) (h3 : Nz w A' n' c' K X') (h4 : Nz w B' m' d' K D') (hD : D ≠ 0) (hD' : D' ≠ 0) : Spn w g K (mkRat (X : Int) D) (mkRat (X' : Int) D') := by
  obtain ⟨l1, x1, r1, e1⟩ := h1
  obtain ⟨l2, x2, r2, e2⟩ := h2
  obtain ⟨l3, x3, r3, e3⟩ := h3
  obtain ⟨l4, x4, r4, e4⟩ := h4
  refine ⟨s, t, A, B, A', B', n, c, m, d, n', c', m', d', hs, ⟨x1, x2, r1, r2, ?_⟩, ⟨x3, x4, r3, r4, ?_⟩, l1, l2, l3, l4⟩
  · rw [rv, rden, e2, if_neg hD, iv, e1]; rfl
  · rw [rv, rden, e4, if_neg hD', iv, e3]; rfl
theorem Spn.alloc {w : World} {g K : Nat} {p q : Rat} (h : Spn w g K p q) (o : Obj) : Spn (w.alloc o) g K p q := by
  obtain ⟨s, t, A, B, A', B', n, c, m, d, n', c', m', d', hs, h1, h2, h3⟩ := h
  exact ⟨s, t, A, B, A', B', n, c, m, d, n', c', m', d', hs.alloc o, h1.alloc o, h2.alloc o, h3⟩
theorem Spn.lt {w : World} {g K : Nat} {p q : Rat} (h : Spn w g K p q) : g < w.heap.size := by
  obtain ⟨s, t, A, B, A', B', n, c, m, d, n', c', m', d', hs, -⟩ := h
  exact hs.lt
theorem descend_q : ∀ (k g : Nat) (p q : Rat) (w : World) (K : Nat) (hK : K ≤ 1000) (hK1 : 1 ≤ K) (h0 : 0 < p) (hpq : p ≤ q) (hk : p.den + q.den ≤ k) (h : Spn w g K p q),
    Calls Try.prog 73 #[.pointer (some ⟨g, 0, none⟩)] w (Ds w g (spos k p q)) := by
  intro k
  induction k with
  | zero =>
    intro g p q w K hK hK1 h0 hpq hk
    have := p.den_nz
    omega
  | succ k ih =>
    intro g p q w K hK hK1 h0 hpq hk h
    have glt := h.lt
    obtain ⟨s, t, A, B, A', B', n, c, m, d, n', c', m', d', hs, hp, hq, l1, l2, l3, l4⟩ := h.alloc EQ0
    have sp := hp.size l1 l2 hK1
    have sq := hq.size l3 l4 hK1
    obtain ⟨xs, ys, hx, hy, ep⟩ := hp
    obtain ⟨xs', ys', kx, ky, eq⟩ := hq
    have ep' : mkRat ((val xs : Nat) : Int) (rden ys) = p := ep
    have eq' : mkRat ((val xs' : Nat) : Int) (rden ys') = q := eq
    have d1 := rden_pos ys
    have d2 := rden_pos ys'
    have f1 := fl_nat (val xs) (rden ys) d1
    have f2 := fl_eq (val xs) (rden ys) d1
    have f3 := fl_nat (val xs') (rden ys') d2
    rw [ep'] at f1 f2
    rw [eq'] at f3
    unfold spos
    by_cases hR : val xs % rden ys = 0
    · have e1 := f2.2 hR
      rw [f1, if_pos e1]
      exact descend_stop g w K _ p e1 (enter_1 g s t A B A' B' n c m d n' c' m' d' xs ys xs' ys' _ _ _ _ K _ hs hx hy kx ky rfl rfl rfl rfl hK hK1 l1 l2 l3 l4 _ _ _ _ rfl rfl rfl rfl hR)
    · have e1 : ¬ (((val xs / rden ys : Nat) : Int) : Rat) = p := fun e => hR (f2.1 e)
      rw [f1, if_neg e1]
      have u : (((val xs / rden ys : Nat) : Int) : Rat) + 1 ≤ q ↔ val xs / rden ys < val xs' / rden ys' := by
        have := le_fl q (((val xs / rden ys : Nat) : Int) + 1)
        rw [f3, Rat.intCast_add] at this
        rw [show ((1 : Int) : Rat) = 1 from rfl] at this
        rw [this]
        omega
      by_cases hu : (((val xs / rden ys : Nat) : Int) : Rat) + 1 ≤ q
      · rw [if_pos hu]
        exact descend_stop g w K (val xs / rden ys + 1) _ (by rw [Int.natCast_add, Rat.intCast_add]; rfl) (enter_2 g s t A B A' B' n c m d n' c' m' d' xs ys xs' ys' _ _ _ _ K _ hs hx hy kx ky rfl rfl rfl rfl hK hK1 l1 l2 l3 l4 _ _ _ _ rfl rfl rfl rfl hR (u.1 hu))
      · rw [if_neg hu]
        obtain ⟨t1, t2, t3, t4, t5, t6, t7, t8, t9⟩ := step_facts _ f1 hpq e1 hu
        have hle : val xs / rden ys ≤ val xs' / rden ys' := by
          have a := (le_fl q ((val xs / rden ys : Nat) : Int)).1 (Rat.le_trans (by rw [← f1]; exact qfl_le p) hpq)
          rw [f3] at a
          omega
        have hLH : val xs / rden ys = val xs' / rden ys' := by
          have h5 : ¬ (val xs / rden ys < val xs' / rden ys') := fun e => hu (u.2 e)
          omega
        have hR' : val xs' % rden ys' ≠ 0 := by
          intro e
          have a := (fl_eq (val xs') (rden ys') d2).2 e
          rw [eq', ← hLH] at a
          have : 0 < q - (((val xs / rden ys : Nat) : Int) : Rat) := lt_le t1 t2
          rw [a] at this
          grind
        have i1 := fr_inv (val xs') (rden ys') d2 hR'
        have i2 := fr_inv (val xs) (rden ys) d1 hR
        rw [eq', ← hLH] at i1
        rw [ep'] at i2
        have sa : Qs K (1 / (q - (((val xs / rden ys : Nat) : Int) : Rat))) := size_parts t8 sq.2 t6
        have hy_ := spos_simp k _ _ t4 t5 (by omega)
        obtain ⟨y0, ysz⟩ := simp_size t4 hy_ sa t5
        refine descend_go g w K (val xs / rden ys) (spos k (1 / (q - (((val xs / rden ys : Nat) : Int) : Rat))) (1 / (p - (((val xs / rden ys : Nat) : Int) : Rat)))) _ (1 / (q - (((val xs / rden ys : Nat) : Int) : Rat))) (1 / (p - (((val xs / rden ys : Nat) : Int) : Rat))) glt rfl ?_ ysz hK hK1 ?_ ?_
        · have a := (lt_num (q := 1 / (q - (((val xs / rden ys : Nat) : Int) : Rat))) 1).2 (by rw [t8]; omega)
          exact lt_le a hy_.1
        · refine (enter_3 g s t A B A' B' n c m d n' c' m' d' xs ys xs' ys' _ _ _ _ K _ hs hx hy kx ky rfl rfl rfl rfl hK hK1 l1 l2 l3 l4 _ _ _ _ rfl rfl rfl rfl hR hLH).mono ?_
          rintro e w' ⟨A1, n1, c1, he, hn1, hgr, A2, n2, c2, B2, m2, d2, A3, n3, c3, B3, m3, d3, hsp, a1, a2, a3, a4⟩
          refine ⟨A1, n1, c1, he, hn1, hgr, ?_⟩
          rw [i1, i2]
          exact spn_of hsp a1 a2 a3 a4 hR' hR
        · intro w' hw
          exact ih g _ _ w' K hK hK1 t4 t5 (by omega) hw
end Go.Proofs.Ytabgniijlofapaa
