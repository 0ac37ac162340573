/-
  Several texts in one, in build order: R0 R1 R2 R3 R4 R5 R6 R7 R8 R9 R10.
-/
import Derived.Test.YtnddhohjfjlaiaaGreatDoorM1
import Derived.Test.YtnddhohjfjlaiaaGreatDoorM4
import Derived.Test.YtnddhohjfjlaiaaGreatDoorM3
import Derived.Deep.RegionHeld3
import Derived.KernelRfl
import Derived.Deep.DeepCutAuto
import Derived.Deep.CutBlock

/-
  Rational numbers: floors, integer shifts, inverses, and the simplest number between two (the least numerator and denominator).
-/
namespace Go.Proofs.YtnddhohjfjlaiaaGreatDoor
open Go.RowKit
set_option linter.unusedVariables false
set_option linter.unusedSimpArgs false

/-- The floor. -/
def qfl (q : Rat) : Int := q.num / q.den

theorem den_pos' (q : Rat) : (0 : Int) < (q.den : Int) := by have := q.den_nz; omega
theorem le_num {q : Rat} (f : Int) : (f : Rat) ≤ q ↔ f * q.den ≤ q.num := by
  rw [Rat.le_iff]; simp
theorem num_le {q : Rat} (f : Int) : q ≤ (f : Rat) ↔ q.num ≤ f * q.den := by
  rw [Rat.le_iff]; simp
theorem lt_num {q : Rat} (f : Int) : (f : Rat) < q ↔ f * q.den < q.num := by
  rw [Rat.lt_iff]; simp
theorem num_lt {q : Rat} (f : Int) : q < (f : Rat) ↔ q.num < f * q.den := by
  rw [Rat.lt_iff]; simp
theorem qfl_le (q : Rat) : ((qfl q : Int) : Rat) ≤ q := by
  rw [le_num]
  exact Int.ediv_mul_le _ (by have := q.den_nz; omega)
theorem lt_qfl (q : Rat) : q < ((qfl q : Int) : Rat) + 1 := by
  rw [show ((qfl q : Int) : Rat) + 1 = ((qfl q + 1 : Int) : Rat) from by simp [Rat.intCast_add], num_lt]
  exact Int.lt_ediv_add_one_mul_self _ (den_pos' q)
/-- A number is what its numerator and denominator say when they have no common divisor. -/
theorem mk_num_den {n : Int} {d : Nat} (hd : d ≠ 0) (hc : Nat.gcd n.natAbs d = 1) : (mkRat n d).num = n ∧ (mkRat n d).den = d := by
  have hc2 : Nat.gcd d n.natAbs = 1 := by rw [Nat.gcd_comm]; exact hc
  rw [Rat.num_mkRat, Rat.den_mkRat, if_neg hd, if_neg hd, hc2]
  simp
theorem cop (q : Rat) : Nat.gcd q.num.natAbs q.den = 1 := q.reduced
theorem shift (q : Rat) (f : Int) : (q + (f : Rat)).num = q.num + f * q.den ∧ (q + (f : Rat)).den = q.den := by
  have e : q + (f : Rat) = mkRat (q.num + f * q.den) q.den := by rw [Rat.add_def']; simp
  rw [e]
  refine mk_num_den q.den_nz ?_
  have h1 := cop q
  have h2 : Int.gcd (q.num + f * q.den) q.den = Int.gcd q.num q.den := Int.gcd_add_mul_right_left ..
  simpa [Int.gcd] using h2.trans (by simpa [Int.gcd] using h1)
theorem inv_parts {q : Rat} (h : 0 < q) : (1 / q).num = q.den ∧ (1 / q).den = q.num.natAbs := by
  have hn : 0 < q.num := by
    have := (Rat.lt_iff 0 q).1 h
    simpa using this
  have e : 1 / q = q⁻¹ := by rw [Rat.div_def, Rat.one_mul]
  rw [e, Rat.num_inv, Rat.den_inv, if_neg (by omega), Int.sign_eq_one_of_pos hn]
  simp

/-- The simplest number between two positive numbers, by the integer parts. -/
def spos : Nat → Rat → Rat → Rat
  | 0, lo, _ => lo
  | k + 1, lo, hi =>
    if ((qfl lo : Int) : Rat) = lo then lo
    else if ((qfl lo : Int) : Rat) + 1 ≤ hi then ((qfl lo : Int) : Rat) + 1
    else ((qfl lo : Int) : Rat) + 1 / spos k (1 / (hi - ((qfl lo : Int) : Rat))) (1 / (lo - ((qfl lo : Int) : Rat)))

/-- r lies between lo and hi, and no number between them has a lesser numerator or denominator. -/
def Simp (lo hi r : Rat) : Prop := lo ≤ r ∧ r ≤ hi ∧ ∀ s, lo ≤ s → s ≤ hi → r.den ≤ s.den ∧ r.num ≤ s.num

theorem num_pos {q : Rat} (h : 0 < q) : 0 < q.num := by
  have := (Rat.lt_iff 0 q).1 h
  simpa using this
theorem sub_int_parts (q : Rat) (f : Int) : (q - (f : Rat)).num = q.num - f * q.den ∧ (q - (f : Rat)).den = q.den := by
  have h := shift q (-f)
  rw [show q + ((-f : Int) : Rat) = q - (f : Rat) from by rw [Rat.sub_eq_add_neg]; simp [Rat.intCast_neg]] at h
  exact ⟨by rw [h.1, Int.neg_mul]; omega, h.2⟩
theorem one_div_le {a b : Rat} (ha : 0 < a) (h : a ≤ b) : 1 / b ≤ 1 / a := by
  have hb : 0 < b := by grind
  have h1 := inv_parts ha
  have h2 := inv_parts hb
  have hna := num_pos ha
  have hnb := num_pos hb
  rw [Rat.le_iff, h1.1, h1.2, h2.1, h2.2]
  have h3 := (Rat.le_iff a b).1 h
  rw [show ((a.num.natAbs : Nat) : Int) = a.num by omega, show ((b.num.natAbs : Nat) : Int) = b.num by omega, Int.mul_comm, Int.mul_comm (a.den : Int)]
  exact h3
theorem one_div_pos {a : Rat} (ha : 0 < a) : 0 < 1 / a := by
  have h1 := inv_parts ha
  have := a.den_nz
  rw [Rat.lt_iff, h1.1, h1.2]
  simp
  omega
theorem one_div_div {a : Rat} : 1 / (1 / a) = a := by
  rw [Rat.div_def, Rat.one_mul, Rat.div_def, Rat.one_mul, Rat.inv_inv]
theorem qfl_nonneg {q : Rat} (h : 0 < q) : 0 ≤ qfl q := by
  have := num_pos h
  exact Int.ediv_nonneg (by omega) (by omega)
theorem lin_pos {lo f : Rat} (h : f ≤ lo) (h1 : f ≠ lo) : 0 < lo - f := by grind
theorem lin_le {lo hi f : Rat} (h : lo ≤ hi) : lo - f ≤ hi - f := by grind
theorem lin_lt {hi f : Rat} (h : ¬ f + 1 ≤ hi) : hi - f < 1 := by grind
theorem lt_le {a b c : Rat} (h : a < b) (k : b ≤ c) : a < c := by grind
theorem le_lt {a b c : Rat} (h : a ≤ b) (k : b < c) : a < c := by grind
theorem lin_back {lo f y : Rat} (h : lo - f ≤ y) : lo ≤ f + y := by grind
theorem lin_back2 {hi f y : Rat} (h : y ≤ hi - f) : f + y ≤ hi := by grind
theorem mul1 {f d : Int} (hf : 0 ≤ f) (hd : 1 ≤ d) : f ≤ f * d := by
  have := Int.mul_le_mul_of_nonneg_left hd hf
  omega
/-- What the step of the descent knows: lo and hi lie above f and below f + 1. -/
theorem step_facts {lo hi : Rat} (f : Int) (hf : qfl lo = f) (hle : lo ≤ hi) (h1 : (f : Rat) ≠ lo) (h2 : ¬ (f : Rat) + 1 ≤ hi) :
    0 < lo - (f : Rat) ∧ lo - (f : Rat) ≤ hi - (f : Rat) ∧ hi - (f : Rat) < 1 ∧
    0 < 1 / (hi - (f : Rat)) ∧ 1 / (hi - (f : Rat)) ≤ 1 / (lo - (f : Rat)) ∧
    (1 / (hi - (f : Rat))).den < hi.den ∧ (1 / (lo - (f : Rat))).den < lo.den ∧
    (1 / (hi - (f : Rat))).num = hi.den ∧ (1 / (lo - (f : Rat))).num = lo.den := by
  have e1 := qfl_le lo
  rw [hf] at e1
  have ha : 0 < lo - (f : Rat) := lin_pos e1 h1
  have hab : lo - (f : Rat) ≤ hi - (f : Rat) := lin_le hle
  have hb1 : hi - (f : Rat) < 1 := lin_lt h2
  have hb : 0 < hi - (f : Rat) := lt_le ha hab
  have ha1 : lo - (f : Rat) < 1 := le_lt hab hb1
  have pa := inv_parts ha
  have pb := inv_parts hb
  have qa := sub_int_parts lo f
  have qb := sub_int_parts hi f
  have na := num_pos ha
  have nb := num_pos hb
  have la := (Rat.lt_iff _ _).1 ha1
  have lb := (Rat.lt_iff _ _).1 hb1
  rw [Rat.one_num, Rat.one_den, Int.one_mul] at la lb
  refine ⟨ha, hab, hb1, one_div_pos hb, one_div_le ha hab, ?_, ?_, ?_, ?_⟩
  · rw [pb.2, ← qb.2]; omega
  · rw [pa.2, ← qa.2]; omega
  · rw [pb.1, qb.2]
  · rw [pa.1, qa.2]
/-- One step: from the simplest number between the inverses to that between lo and hi. -/
theorem simp_step {lo hi y : Rat} (f : Int) (hf : qfl lo = f) (hf0 : 0 ≤ f) (hle : lo ≤ hi) (h1 : (f : Rat) ≠ lo) (h2 : ¬ (f : Rat) + 1 ≤ hi)
    (hs : Simp (1 / (hi - (f : Rat))) (1 / (lo - (f : Rat))) y) : Simp lo hi ((f : Rat) + 1 / y) := by
  obtain ⟨ha, hab, hb1, hl0, hlh, d1, d2, n1, n2⟩ := step_facts f hf hle h1 h2
  obtain ⟨y1, y2, y3⟩ := hs
  have hy0 : 0 < y := lt_le hl0 y1
  have hi1 : 1 / y ≤ hi - (f : Rat) := by have := one_div_le hl0 y1; rwa [one_div_div] at this
  have lo1 : lo - (f : Rat) ≤ 1 / y := by have := one_div_le hy0 y2; rwa [one_div_div] at this
  have er : (f : Rat) + 1 / y = 1 / y + (f : Rat) := Rat.add_comm _ _
  have pr := shift (1 / y) f
  have py := inv_parts hy0
  have ny := num_pos hy0
  refine ⟨lin_back lo1, lin_back2 hi1, fun s hs hs2 => ?_⟩
  have hsf : 0 < s - (f : Rat) := lt_le ha (lin_le hs)
  have t1 : 1 / (hi - (f : Rat)) ≤ 1 / (s - (f : Rat)) := one_div_le hsf (lin_le hs2)
  have t2 : 1 / (s - (f : Rat)) ≤ 1 / (lo - (f : Rat)) := one_div_le ha (lin_le hs)
  obtain ⟨c1, c2⟩ := y3 _ t1 t2
  have ps := inv_parts hsf
  have qs := sub_int_parts s f
  have ns := num_pos hsf
  rw [ps.2, qs.1] at c1
  rw [ps.1, qs.2] at c2
  rw [qs.1] at ns
  rw [er, pr.1, pr.2, py.1, py.2]
  refine ⟨by omega, ?_⟩
  have m1 : f * ((y.num.natAbs : Nat) : Int) ≤ f * (s.den : Int) := Int.mul_le_mul_of_nonneg_left (by omega) hf0
  omega
theorem simp_int {lo hi : Rat} (f : Int) (hf0 : 0 ≤ f) (h1 : (f : Rat) = lo) (hle : lo ≤ hi) : Simp lo hi lo := by
  refine ⟨Rat.le_refl, hle, fun s hs _ => ?_⟩
  subst h1
  have hsd := s.den_nz
  rw [le_num] at hs
  have := mul1 hf0 (show (1 : Int) ≤ s.den by omega)
  simp
  omega
theorem simp_up {lo hi : Rat} (f : Int) (hf : qfl lo = f) (hf0 : 0 ≤ f) (h1 : (f : Rat) ≠ lo) (h2 : (f : Rat) + 1 ≤ hi) : Simp lo hi ((f : Rat) + 1) := by
  have e1 := qfl_le lo
  have e2 := lt_qfl lo
  rw [hf] at e1 e2
  have e3 : (f : Rat) + 1 = ((f + 1 : Int) : Rat) := by simp [Rat.intCast_add]
  refine ⟨Rat.le_of_lt e2, h2, fun s hs _ => ?_⟩
  have hs2 : (f : Rat) < s := lt_le (Rat.lt_of_le_of_ne e1 h1) hs
  rw [lt_num] at hs2
  have hsd := s.den_nz
  have := mul1 hf0 (show (1 : Int) ≤ s.den by omega)
  rw [e3, Rat.num_intCast, Rat.den_intCast]
  omega
theorem spos_simp : ∀ (k : Nat) (lo hi : Rat), 0 < lo → lo ≤ hi → lo.den + hi.den ≤ k → Simp lo hi (spos k lo hi) := by
  intro k
  induction k with
  | zero => intro lo hi h0 hle hk; have := lo.den_nz; omega
  | succ k ih =>
    intro lo hi h0 hle hk
    have hf0 := qfl_nonneg h0
    obtain ⟨f, hf⟩ : ∃ f, qfl lo = f := ⟨_, rfl⟩
    unfold spos
    rw [hf] at hf0 ⊢
    by_cases h1 : (f : Rat) = lo
    · rw [if_pos h1]
      exact simp_int f hf0 h1 hle
    · rw [if_neg h1]
      by_cases h2 : (f : Rat) + 1 ≤ hi
      · rw [if_pos h2]
        exact simp_up f hf hf0 h1 h2
      · rw [if_neg h2]
        obtain ⟨ha, hab, hb1, hl0, hlh, d1, d2, n1, n2⟩ := step_facts f hf hle h1 h2
        exact simp_step f hf hf0 hle h1 h2 (ih _ _ hl0 hlh (by omega))
/-- The simplest number is determined by its property. -/
theorem simp_unique {lo hi r s : Rat} (h : Simp lo hi r) (k : Simp lo hi s) : r = s := by
  have h1 := h.2.2 s k.1 k.2.1
  have h2 := k.2.2 r h.1 h.2.1
  exact Rat.ext (by omega) (by omega)
end Go.Proofs.YtnddhohjfjlaiaaGreatDoor

/-
  Rational numbers: what a value of three fields reads as; its block.
-/
namespace Go.Proofs.YtnddhohjfjlaiaaGreatDoor
open Go.RowKit
set_option linter.unusedVariables false
set_option linter.unusedSimpArgs false

/-- The denominator of limbs: 1 where they read as 0. -/
def rden (ys : List Nat) : Nat := if val ys = 0 then 1 else val ys
/-- The number of a sign and two lists of limbs. -/
def rv (s : Bool) (xs ys : List Nat) : Rat := mkRat (iv s xs) (rden ys)
/-- The canonical denominator: none for 1. -/
def qd (q : Rat) : List Nat := if q.den = 1 then [] else dg q.den
theorem rden_pos (ys : List Nat) : rden ys ≠ 0 := by unfold rden; split <;> omega
theorem rden_qd (q : Rat) : rden (qd q) = q.den := by
  unfold qd rden
  have := q.den_nz
  split
  · rename_i h; simp [val, h]
  · rw [val_dg, if_neg this]
/-- A sign and two slices read as the number q. -/
def Iq (w : World) (s : Bool) (A : Option Addr) (n c : Nat) (B : Option Addr) (m d : Nat) (q : Rat) : Prop := ∃ xs ys, Rd w A n c xs ∧ Rd w B m d ys ∧ rv s xs ys = q
/-- .. in the canonical form. -/
def Cq (w : World) (s : Bool) (A : Option Addr) (n c : Nat) (B : Option Addr) (m d : Nat) (q : Rat) : Prop := Rd w A n c (dg q.num.natAbs) ∧ Rd w B m d (qd q) ∧ s = decide (q.num < 0)
def GQ (w : World) (q : Rat) (e : Ending) (w' : World) : Prop := ∃ s A n c B m d, e = .returned (.agg #[.bool s, .slice A n c, .slice B m d]) ∧ Cq w' s A n c B m d q ∧ Below w.heap.size w w'
def GQE (w : World) (q : Rat) (r : Int) (e : Ending) (w' : World) : Prop := ∃ s A n c B m d, e = .returned (.tuple #[.agg #[.bool s, .slice A n c, .slice B m d], .int .i64 r]) ∧ Cq w' s A n c B m d q ∧ Below w.heap.size w w'
section
variable {w w' : World} {s : Bool} {A B : Option Addr} {n c m d : Nat} {q : Rat}
theorem Cq.iq (h : Cq w s A n c B m d q) : Iq w s A n c B m d q := by
  obtain ⟨h1, h2, h3⟩ := h
  refine ⟨_, _, h1, h2, ?_⟩
  rw [rv, rden_qd, show iv s (dg q.num.natAbs) = q.num from ?_, Rat.mkRat_self]
  rw [iv, val_dg, h3]
  split <;> rename_i h0 <;> rw [decide_eq_true_eq] at h0 <;> omega
theorem Cq.below (h : Cq w s A n c B m d q) (hb : Below w.heap.size w w') : Cq w' s A n c B m d q := ⟨h.1.below hb, h.2.1.below hb, h.2.2⟩
theorem Iq.below (h : Iq w s A n c B m d q) (hb : Below w.heap.size w w') : Iq w' s A n c B m d q := by
  obtain ⟨xs, ys, h1, h2, h3⟩ := h
  exact ⟨xs, ys, h1.below hb, h2.below hb, h3⟩
theorem Iq.alloc (h : Iq w s A n c B m d q) (o : Obj) : Iq (w.alloc o) s A n c B m d q := h.below ((Below.refl _ _).alloc (Nat.le_refl _) _)
theorem Cq.alloc (h : Cq w s A n c B m d q) (o : Obj) : Cq (w.alloc o) s A n c B m d q := h.below ((Below.refl _ _).alloc (Nat.le_refl _) _)
theorem Iq.drew (h : Iq w s A n c B m d q) : Iq w.drew s A n c B m d q := h.below (Below.refl _ _).drew
theorem Cq.drew (h : Cq w s A n c B m d q) : Cq w.drew s A n c B m d q := h.below (Below.refl _ _).drew
theorem Cq.to {p : Rat} (h : Cq w s A n c B m d q) (e : q = p) : Cq w s A n c B m d p := e ▸ h
theorem Cq.rn (h : Cq w s A n c B m d q) : Rd w A n c (dg q.num.natAbs) := h.1
theorem Cq.rd (h : Cq w s A n c B m d q) : Rd w B m d (qd q) := h.2.1
theorem Cq.ln (h : Cq w s A n c B m d q) {k : Nat} (hq : q.num.natAbs < pw k) : n ≤ k := by
  have := h.1.len
  have := len_dg_le hq
  omega
theorem Cq.ld (h : Cq w s A n c B m d q) {k : Nat} (hq : q.den < pw k) : m ≤ k := by
  have h1 := h.2.1.len
  have h2 := len_dg_le hq
  unfold qd at h1
  split at h1
  · simp at h1; omega
  · omega
end
/-- A block that holds a rational number. -/
def Sq (w : World) (g : Nat) (v0 v1 v2 : Value) : Prop := w.heap[g]? = some (.cells #[v0, v1, v2] 25 (0, 0))
section
variable {w w' : World} {g : Nat} {v0 v1 v2 : Value}
theorem Sq.lt (h : Sq w g v0 v1 v2) : g < w.heap.size := by
  rcases Nat.lt_or_ge g w.heap.size with hb | hb
  · exact hb
  · unfold Sq at h
    rw [Array.getElem?_eq_none hb] at h
    cases h
theorem Sq.new (w : World) (v0 v1 v2 : Value) : Sq (w.alloc (.cells #[v0, v1, v2] 25)) w.heap.size v0 v1 v2 := heap_alloc_new w _
theorem Sq.below {B : Nat} (h : Sq w g v0 v1 v2) (hb : Below B w w') (hg : g < B) : Sq w' g v0 v1 v2 := (hb.block g hg).trans h
theorem Sq.cell0 (h : Sq w g v0 v1 v2) : w.cell? ⟨g, 0, none⟩ = some v0 := cell_of_row w g 0 #[v0, v1, v2] 25 (0, 0) h
theorem Sq.cell1 (h : Sq w g v0 v1 v2) : w.cell? ⟨g, 1, none⟩ = some v1 := cell_of_row w g 1 #[v0, v1, v2] 25 (0, 0) h
theorem Sq.cell2 (h : Sq w g v0 v1 v2) : w.cell? ⟨g, 2, none⟩ = some v2 := cell_of_row w g 2 #[v0, v1, v2] 25 (0, 0) h
theorem Sq.frozen (h : Sq w g v0 v1 v2) (i : Nat) : w.frozen? ⟨g, i, none⟩ = false := by
  unfold Sq at h
  simp [World.frozen?, h]
theorem Sq.drew (h : Sq w g v0 v1 v2) : Sq w.drew g v0 v1 v2 := h
theorem Sq.alloc (h : Sq w g v0 v1 v2) (o : Obj) : Sq (w.alloc o) g v0 v1 v2 := (Below.heap_alloc w o g h.lt).trans h
theorem Sq.far (h : Sq w g v0 v1 v2) {p : Addr} (hp : g ≠ p.block) (u : Value) : Sq (w.setCell p u) g v0 v1 v2 := (Below.heap_setCell w p u g hp).trans h
theorem Sq.set0 (h : Sq w g v0 v1 v2) (u : Value) : Sq (w.setCell ⟨g, 0, none⟩ u) g u v1 v2 := by
  unfold Sq at h ⊢
  simp [World.setCell, Array.getElem?_modify, h]
theorem Sq.set1 (h : Sq w g v0 v1 v2) (u : Value) : Sq (w.setCell ⟨g, 1, none⟩ u) g v0 u v2 := by
  unfold Sq at h ⊢
  simp [World.setCell, Array.getElem?_modify, h]
theorem Sq.set2 (h : Sq w g v0 v1 v2) (u : Value) : Sq (w.setCell ⟨g, 2, none⟩ u) g v0 v1 u := by
  unfold Sq at h ⊢
  simp [World.setCell, Array.getElem?_modify, h]
theorem Rd.awayQ {A : Option Addr} {n c : Nat} {xs : List Nat} (h : Rd w A n c xs) {s : Bool} {B C : Option Addr} {l d l' d' : Nat} (hs : Sq w g (.bool s) (.slice B l d) (.slice C l' d')) : Away A n g := fun hn ad had hg => by
  obtain ⟨b, off, rfl, hb, hc⟩ := h.at_ hn
  obtain rfl := Option.some.inj had
  subst hg
  have h0 := hc 0 hn
  have h1 := cell_of_row w b (off + 0) #[.bool s, .slice B l d, .slice C l' d'] 25 (0, 0) hs
  have h2 : (#[.bool s, .slice B l d, .slice C l' d'] : Array Value)[off + 0]? = some (.int .u32 (lim xs 0 : Nat)) := h1.symm.trans h0
  rcases off with _ | _ | _ | off <;> simp at h2
theorem Sq.stor {u0 u1 u2 : Value} (h : Sq w g v0 v1 v2) : Sq (((w.setCell ⟨g, 0, none⟩ u0).setCell ⟨g, 1, none⟩ u1).setCell ⟨g, 2, none⟩ u2) g u0 u1 u2 := ((h.set0 u0).set1 u1).set2 u2
theorem Sq.past {g' : Nat} {u0 u1 u2 : Value} (h : Sq w g v0 v1 v2) (hg : g ≠ g') : Sq (((w.setCell ⟨g', 0, none⟩ u0).setCell ⟨g', 1, none⟩ u1).setCell ⟨g', 2, none⟩ u2) g v0 v1 v2 := ((h.far hg u0).far hg u1).far hg u2
end
theorem below_storQ {B : Nat} {w w1 : World} {g : Nat} {u0 u1 u2 : Value} (h : Below B w w1) (hg : B ≤ g) : Below B w (((w1.setCell ⟨g, 0, none⟩ u0).setCell ⟨g, 1, none⟩ u1).setCell ⟨g, 2, none⟩ u2) := ((h.setCell hg _).setCell hg _).setCell hg _
theorem Rd.storQ {w : World} {A : Option Addr} {n c : Nat} {xs : List Nat} (h : Rd w A n c xs) {g : Nat} {s0 : Bool} {B C : Option Addr} {l d l' d' : Nat} (hs : Sq w g (.bool s0) (.slice B l d) (.slice C l' d')) (u0 u1 u2 : Value) :
    Rd (((w.setCell ⟨g, 0, none⟩ u0).setCell ⟨g, 1, none⟩ u1).setCell ⟨g, 2, none⟩ u2) A n c xs := by
  have ha := h.awayQ hs
  exact ((h.far ha _ _).far ha _ _).far ha _ _
theorem gq_end {w w2 : World} {g : Nat} {s s0 : Bool} {A A0 B B0 : Option Addr} {n c n0 c0 m d m0 d0 : Nat} {q : Rat} (hB : Below w.heap.size w w2) (hg : w.heap.size ≤ g) (hs : Sq w2 g (.bool s0) (.slice A0 n0 c0) (.slice B0 m0 d0)) (hc : Cq w2 s A n c B m d q) :
    GQ w q (.returned (.agg #[.bool s, .slice A n c, .slice B m d])) (((w2.setCell ⟨g, 0, none⟩ (.bool s)).setCell ⟨g, 1, none⟩ (.slice A n c)).setCell ⟨g, 2, none⟩ (.slice B m d)) :=
  ⟨_, _, _, _, _, _, _, rfl, ⟨hc.1.storQ hs _ _ _, hc.2.1.storQ hs _ _ _, hc.2.2⟩, below_storQ hB hg⟩
abbrev EQ0 : Obj := .cells #[.bool false, .slice none 0 0, .slice none 0 0] 25
abbrev EQ (s : Bool) (A : Option Addr) (n c : Nat) (B : Option Addr) (m d : Nat) : Obj := .cells #[.bool s, .slice A n c, .slice B m d] 25
/-- What a quotient's canonical form is. -/
theorem quo_parts (s : Bool) (X Y : Nat) (hY : Y ≠ 0) :
    (mkRat (if s then -(X : Int) else X) Y).num.natAbs = X / Nat.gcd X Y ∧ (mkRat (if s then -(X : Int) else X) Y).den = Y / Nat.gcd X Y ∧
    decide ((mkRat (if s then -(X : Int) else X) Y).num < 0) = (s && decide (0 < X / Nat.gcd X Y)) := by
  have hg : 0 < Nat.gcd X Y := Nat.gcd_pos_of_pos_right _ (by omega)
  have ha : (if s then -(X : Int) else (X : Int)).natAbs = X := by cases s <;> simp
  have hd : Nat.gcd X Y ∣ X := Nat.gcd_dvd_left _ _
  have hdi : ((Nat.gcd X Y : Nat) : Int) ∣ (X : Int) := Int.ofNat_dvd.2 hd
  rw [Rat.num_mkRat, Rat.den_mkRat, if_neg hY, if_neg hY, ha, Nat.gcd_comm Y X]
  have e : (if s then -(X : Int) else (X : Int)) / ((Nat.gcd X Y : Nat) : Int) = if s then -((X / Nat.gcd X Y : Nat) : Int) else ((X / Nat.gcd X Y : Nat) : Int) := by
    cases s
    · simp
    · simp [Int.neg_ediv_of_dvd hdi]
  rw [e]
  generalize X / Nat.gcd X Y = Z
  refine ⟨by cases s <;> simp, rfl, ?_⟩
  cases s
  · simp
  · simp
end Go.Proofs.YtnddhohjfjlaiaaGreatDoor

/-
  The specification's one and quotient.
-/
namespace Go.Proofs.YtnddhohjfjlaiaaGreatDoor
open Go.RowKit
set_option linter.unusedVariables false
set_option linter.unusedSimpArgs false

theorem rmake_L (A : Option Addr) (n c : Nat) (xs : List Nat) (w : World) (X L : Nat) (hX : val xs = X) (hL : (dg X).length = L) (h : Rd w A n c xs) (hn : n ≤ 4194304) :
    Calls Tryz.prog 82 #[.slice A n c] w fun e w' => ∃ A1 c1, e = .returned (.slice A1 L c1) ∧ Rd w' A1 L c1 (dg X) ∧ Below w.heap.size w w' := by
  subst hX
  exact rmake_len A n c xs w L hL h hn
theorem one_at (A : Option Addr) (n c : Nat) (ys : List Nat) (w : World) (X L : Nat) (hX : rden ys = X) (hL : (dg X).length = L) (h : Rd w A n c ys) (hn : n ≤ 4194304) :
    Calls Tryz.prog 62 #[.slice A n c] w fun e w' => ∃ A1 c1, e = .returned (.slice A1 L c1) ∧ Rd w' A1 L c1 (dg X) ∧ Below w.heap.size w w' := by
  obtain ⟨M, hM⟩ : ∃ M, (dg (val ys)).length = M := ⟨_, rfl⟩
  have hM0 : M = 0 ↔ val ys = 0 := by rw [← hM, List.length_eq_zero_iff, dg_nil_iff]
  have HM := hide hM
  clear hM
  by_cases h0 : M = 0
  · have e0 : (((M : Nat) : Int) == 0) = true := by simp [h0]
    have hX1 : X = 1 := by rw [← hX, rden, if_pos (hM0.1 h0)]
    have hL1 : L = 1 := by rw [← hL, hX1, dg_small (by omega) (by omega)]; rfl
    subst hX1 hL1
    clear hM0 h0 hX hL
    go_enter Tryz.func62, Tryz.ntmps62
    go_wp2_with fail
    refine (rmake_L _ _ _ _ _ _ M rfl HM.out h hn).mono ?_
    rintro e w1 ⟨A1, c1, rfl, hr, b1⟩
    go_wp2
    go_ret
    refine ⟨_, _, rfl, ?_, b1.alloc b1.size _⟩
    rw [dg_small (by omega) (by omega)]
    exact rd_lit w1 _ [1] 1 rfl sm_1 rfl
  · have e0 : (((M : Nat) : Int) == 0) = false := by simp [h0]
    have hX1 : X = val ys := by rw [← hX, rden, if_neg (fun e => h0 (hM0.2 e))]
    subst hX1
    obtain rfl : M = L := by rw [← HM.out, ← hL]
    clear hM0 h0 hX hL
    go_enter Tryz.func62, Tryz.ntmps62
    go_wp2_with fail
    refine (rmake_L _ _ _ _ _ _ M rfl HM.out h hn).mono ?_
    rintro e w1 ⟨A1, c1, rfl, hr, b1⟩
    go_wp2
    go_ret
    exact ⟨_, _, rfl, hr, b1⟩
theorem rgcd_L (A B : Option Addr) (n m c d : Nat) (xs ys : List Nat) (w : World) (X Y L : Nat) (hX : val xs = X) (hY : val ys = Y) (hL : (dg (Nat.gcd X Y)).length = L) (h : Rd w A n c xs) (h2 : Rd w B m d ys) (hn : n ≤ 16384) (hm : m ≤ 16384) :
    Calls Tryz.prog 87 #[.slice A n c, .slice B m d] w fun e w' => ∃ A1 c1, e = .returned (.slice A1 L c1) ∧ Rd w' A1 L c1 (dg (Nat.gcd X Y)) ∧ Below w.heap.size w w' := by
  subst hL
  exact rgcd_calls A B n m c d xs ys w X Y h h2 hn hm hX hY
theorem rdiv_L (A B : Option Addr) (n m c d : Nat) (xs ys : List Nat) (w : World) (X Y LQ LR : Nat) (hX : val xs = X) (hY : val ys = Y) (hq : (dg (X / Y)).length = LQ) (hr : (dg (X % Y)).length = LR) (h0 : 0 < Y) (h : Rd w A n c xs) (h2 : Rd w B m d ys) (hn : n ≤ 16384) (hm : m ≤ 16384) :
    Calls Tryz.prog 84 #[.slice A n c, .slice B m d] w fun e w' => ∃ A1 c1 B1 d1, e = .returned (.tuple #[.slice A1 LQ c1, .slice B1 LR d1, .int .i64 0]) ∧ Rd w' A1 LQ c1 (dg (X / Y)) ∧ Rd w' B1 LR d1 (dg (X % Y)) ∧ Below w.heap.size w w' := by
  subst hq hr hX hY
  exact rdivmod_calls A B n m c d xs ys w h h2 hn hm h0
theorem quo_one (s : Bool) (A B : Option Addr) (n m c d : Nat) (xs ys : List Nat) (w : World) (X Y G LN : Nat) (q : Rat) (hX : val xs = X) (hY : val ys = Y) (hG : Nat.gcd X Y = G) (hG0 : 0 < G) (hLN : (dg (X / G)).length = LN) (hLD : (dg (Y / G)).length = 1) (hD1 : Y / G = 1)
    (hq1 : q.num.natAbs = X / G) (hq2 : q.den = Y / G) (hq3 : decide (q.num < 0) = (s && decide (0 < LN))) (h : Rd w A n c xs) (k : Rd w B m d ys) (hn : n ≤ 16384) (hm : m ≤ 16384) :
    Calls Tryz.prog 61 #[.bool s, .slice A n c, .slice B m d] w (GQ w q) := by
  have h1 := rd_alloc h EQ0
  have k1 := rd_alloc k EQ0
  have lg : (dg G).length ≤ 16384 := by
    rcases Nat.eq_zero_or_pos Y with h0 | h0
    · have hx := rd_lt h hn
      rw [hX] at hx
      have : G = X := by rw [← hG, h0, Nat.gcd_zero_right]
      rw [this]; exact dg_le hx
    · have hy := rd_lt k hm
      rw [hY] at hy
      exact dg_le (Nat.lt_of_le_of_lt (by rw [← hG]; exact Nat.gcd_le_right _ h0) hy)
  obtain ⟨LG, hLG⟩ : ∃ L, (dg G).length = L := ⟨_, rfl⟩
  rw [hLG] at lg
  obtain ⟨R1, hR1⟩ : ∃ L, (dg (X % G)).length = L := ⟨_, rfl⟩
  obtain ⟨R2, hR2⟩ : ∃ L, (dg (Y % G)).length = L := ⟨_, rfl⟩
  have hLG2 : (dg (Nat.gcd X Y)).length = LG := by rw [hG]; exact hLG
  have HLG := hide hLG2
  have HLN := hide hLN
  have HLD := hide hLD
  have HR1 := hide hR1
  have HR2 := hide hR2
  have HX := hide hX
  have HY := hide hY
  have HG := hide (show val (dg (Nat.gcd X Y)) = G by rw [val_dg, hG])
  have HQ1 := hide hq1
  have HQ2 := hide hq2
  have HQ3 := hide hq3
  clear hLG hLG2 hLN hLD hR1 hR2 hX hY hG hq1 hq2 hq3
  go_enter Tryz.func61, Tryz.ntmps61
  go_wp2_with fail
  refine (rgcd_L _ _ _ _ _ _ _ _ _ X Y LG HX.out HY.out HLG.out h1 k1 hn hm).mono ?_
  rintro e w1 ⟨A1, c1, rfl, hg, b1⟩
  have h2 := h1.below b1
  have k2 := k1.below b1
  go_wp2_with fail
  refine (rdiv_L _ _ _ _ _ _ _ _ _ X G LN R1 HX.out HG.out HLN.out HR1.out hG0 h2 hg hn lg).mono ?_
  rintro e w2 ⟨A2, c2, B2, d2, rfl, hN, -, b2⟩
  have k3 := k2.below b2
  have hg2 := hg.below b2
  go_wp2_with fail
  refine (rdiv_L _ _ _ _ _ _ _ _ _ Y G 1 R2 HY.out HG.out HLD.out HR2.out hG0 k3 hg2 hm lg).mono ?_
  rintro e w3 ⟨A3, c3, B3, d3, rfl, hD, -, b3⟩
  have hN3 := hN.below b3
  have b13 := below_then (below_then b1 (Nat.le_refl _) b2) (Nat.le_refl _) b3
  have hB : Below w.heap.size w w3 := below_then ((Below.refl _ _).alloc (Nat.le_refl _) _) (Nat.le_refl _) b13
  have hs := (Sq.new w (.bool false) (.slice none 0 0) (.slice none 0 0)).below b13 (by simp)
  have z0 := hs.cell0
  have z1 := hs.cell1
  have z2 := hs.cell2
  have z3 := hs.frozen 0
  have z4 := hs.frozen 1
  have z5 := hs.frozen 2
  obtain ⟨b0, off, rfl, -, x0⟩ := hD.get0 (by omega)
  have hl : lim (dg (Y / G)) 0 = 1 := by rw [hD1, dg_small (by omega) (by omega)]; rfl
  rw [hl] at x0
  clear hl
  cases s
  · have hc : Cq w3 false A2 LN c2 none 0 0 q := ⟨by rw [HQ1.out]; exact hN3, by rw [qd, if_pos (by rw [HQ2.out]; exact hD1)]; exact Rd.empty _ _ _, by rw [HQ3.out]; simp⟩
    go_wp2
    refine bodyPost_ret (v := .agg #[.bool false, .slice A2 LN c2, .slice none 0 0]) (by simp [results, Tryz.results61, go_sem, (hs.set0 (.bool false)).cell0, ((hs.set0 (.bool false)).set1 (.slice A2 LN c2)).cell1, (((hs.set0 (.bool false)).set1 (.slice A2 LN c2)).set2 (.slice none 0 0)).cell2]) rfl (gq_end hB (Nat.le_refl _) hs hc)
  · have hc : Cq w3 (decide (0 < LN)) A2 LN c2 none 0 0 q := ⟨by rw [HQ1.out]; exact hN3, by rw [qd, if_pos (by rw [HQ2.out]; exact hD1)]; exact Rd.empty _ _ _, by rw [HQ3.out]; simp⟩
    go_wp2
    refine bodyPost_ret (v := .agg #[.bool (decide (0 < LN)), .slice A2 LN c2, .slice none 0 0]) (by simp [results, Tryz.results61, go_sem, (hs.set0 (.bool (decide (0 < LN)))).cell0, ((hs.set0 (.bool (decide (0 < LN)))).set1 (.slice A2 LN c2)).cell1, (((hs.set0 (.bool (decide (0 < LN)))).set1 (.slice A2 LN c2)).set2 (.slice none 0 0)).cell2]) rfl (gq_end hB (Nat.le_refl _) hs hc)
theorem quo_big1 (s : Bool) (A B : Option Addr) (n m c d : Nat) (xs ys : List Nat) (w : World) (X Y G LN : Nat) (q : Rat) (hX : val xs = X) (hY : val ys = Y) (hG : Nat.gcd X Y = G) (hG0 : 0 < G) (hLN : (dg (X / G)).length = LN) (hLD : (dg (Y / G)).length = 1) (hD1 : Y / G ≠ 1)
    (hq1 : q.num.natAbs = X / G) (hq2 : q.den = Y / G) (hq3 : decide (q.num < 0) = (s && decide (0 < LN))) (h : Rd w A n c xs) (k : Rd w B m d ys) (hn : n ≤ 16384) (hm : m ≤ 16384) :
    Calls Tryz.prog 61 #[.bool s, .slice A n c, .slice B m d] w (GQ w q) := by
  have h1 := rd_alloc h EQ0
  have k1 := rd_alloc k EQ0
  have lg : (dg G).length ≤ 16384 := by
    rcases Nat.eq_zero_or_pos Y with h0 | h0
    · have hx := rd_lt h hn
      rw [hX] at hx
      have : G = X := by rw [← hG, h0, Nat.gcd_zero_right]
      rw [this]; exact dg_le hx
    · have hy := rd_lt k hm
      rw [hY] at hy
      exact dg_le (Nat.lt_of_le_of_lt (by rw [← hG]; exact Nat.gcd_le_right _ h0) hy)
  obtain ⟨LG, hLG⟩ : ∃ L, (dg G).length = L := ⟨_, rfl⟩
  rw [hLG] at lg
  obtain ⟨R1, hR1⟩ : ∃ L, (dg (X % G)).length = L := ⟨_, rfl⟩
  obtain ⟨R2, hR2⟩ : ∃ L, (dg (Y % G)).length = L := ⟨_, rfl⟩
  have hLG2 : (dg (Nat.gcd X Y)).length = LG := by rw [hG]; exact hLG
  have HLG := hide hLG2
  have HLN := hide hLN
  have HLD := hide hLD
  have HR1 := hide hR1
  have HR2 := hide hR2
  have HX := hide hX
  have HY := hide hY
  have HG := hide (show val (dg (Nat.gcd X Y)) = G by rw [val_dg, hG])
  have HQ1 := hide hq1
  have HQ2 := hide hq2
  have HQ3 := hide hq3
  clear hLG hLG2 hLN hLD hR1 hR2 hX hY hG hq1 hq2 hq3
  go_enter Tryz.func61, Tryz.ntmps61
  go_wp2_with fail
  refine (rgcd_L _ _ _ _ _ _ _ _ _ X Y LG HX.out HY.out HLG.out h1 k1 hn hm).mono ?_
  rintro e w1 ⟨A1, c1, rfl, hg, b1⟩
  have h2 := h1.below b1
  have k2 := k1.below b1
  go_wp2_with fail
  refine (rdiv_L _ _ _ _ _ _ _ _ _ X G LN R1 HX.out HG.out HLN.out HR1.out hG0 h2 hg hn lg).mono ?_
  rintro e w2 ⟨A2, c2, B2, d2, rfl, hN, -, b2⟩
  have k3 := k2.below b2
  have hg2 := hg.below b2
  go_wp2_with fail
  refine (rdiv_L _ _ _ _ _ _ _ _ _ Y G 1 R2 HY.out HG.out HLD.out HR2.out hG0 k3 hg2 hm lg).mono ?_
  rintro e w3 ⟨A3, c3, B3, d3, rfl, hD, -, b3⟩
  have hN3 := hN.below b3
  have b13 := below_then (below_then b1 (Nat.le_refl _) b2) (Nat.le_refl _) b3
  have hB : Below w.heap.size w w3 := below_then ((Below.refl _ _).alloc (Nat.le_refl _) _) (Nat.le_refl _) b13
  have hs := (Sq.new w (.bool false) (.slice none 0 0) (.slice none 0 0)).below b13 (by simp)
  have z0 := hs.cell0
  have z1 := hs.cell1
  have z2 := hs.cell2
  have z3 := hs.frozen 0
  have z4 := hs.frozen 1
  have z5 := hs.frozen 2
  obtain ⟨b0, off, rfl, -, x0⟩ := hD.get0 (by omega)
  obtain ⟨v, hv⟩ : ∃ v, lim (dg (Y / G)) 0 = v := ⟨_, rfl⟩
  have hv1 : (((v : Nat) : Int) == 1) = false := by
    have e1 : dg (Y / G) = [v] := by
      have e2 := HLD.out
      rcases hh : dg (Y / G) with _ | ⟨a, _ | ⟨b, r⟩⟩
      · rw [hh] at e2; simp at e2
      · rw [hh] at hv; rw [← hv]; rfl
      · rw [hh] at e2; simp at e2
    have e3 := val_dg (Y / G)
    rw [e1] at e3
    simp [val] at e3
    simp
    omega
  rw [hv] at x0
  clear hv
  cases s
  · have hc : Cq w3 false A2 LN c2 (some ⟨b0, off, none⟩) 1 c3 q := ⟨by rw [HQ1.out]; exact hN3, by rw [qd, if_neg (by rw [HQ2.out]; exact hD1), HQ2.out]; exact hD, by rw [HQ3.out]; simp⟩
    go_wp2
    refine bodyPost_ret (v := .agg #[.bool false, .slice A2 LN c2, .slice (some ⟨b0, off, none⟩) 1 c3]) (by simp [results, Tryz.results61, go_sem, (hs.set0 (.bool false)).cell0, ((hs.set0 (.bool false)).set1 (.slice A2 LN c2)).cell1, (((hs.set0 (.bool false)).set1 (.slice A2 LN c2)).set2 (.slice (some ⟨b0, off, none⟩) 1 c3)).cell2]) rfl (gq_end hB (Nat.le_refl _) hs hc)
  · have hc : Cq w3 (decide (0 < LN)) A2 LN c2 (some ⟨b0, off, none⟩) 1 c3 q := ⟨by rw [HQ1.out]; exact hN3, by rw [qd, if_neg (by rw [HQ2.out]; exact hD1), HQ2.out]; exact hD, by rw [HQ3.out]; simp⟩
    go_wp2
    refine bodyPost_ret (v := .agg #[.bool (decide (0 < LN)), .slice A2 LN c2, .slice (some ⟨b0, off, none⟩) 1 c3]) (by simp [results, Tryz.results61, go_sem, (hs.set0 (.bool (decide (0 < LN)))).cell0, ((hs.set0 (.bool (decide (0 < LN)))).set1 (.slice A2 LN c2)).cell1, (((hs.set0 (.bool (decide (0 < LN)))).set1 (.slice A2 LN c2)).set2 (.slice (some ⟨b0, off, none⟩) 1 c3)).cell2]) rfl (gq_end hB (Nat.le_refl _) hs hc)
theorem quo_big (s : Bool) (A B : Option Addr) (n m c d : Nat) (xs ys : List Nat) (w : World) (X Y G LN LD : Nat) (q : Rat) (hX : val xs = X) (hY : val ys = Y) (hG : Nat.gcd X Y = G) (hG0 : 0 < G) (hLN : (dg (X / G)).length = LN) (hLD : (dg (Y / G)).length = LD) (hD1 : Y / G ≠ 1) (hLD1 : LD ≠ 1)
    (hq1 : q.num.natAbs = X / G) (hq2 : q.den = Y / G) (hq3 : decide (q.num < 0) = (s && decide (0 < LN))) (h : Rd w A n c xs) (k : Rd w B m d ys) (hn : n ≤ 16384) (hm : m ≤ 16384) :
    Calls Tryz.prog 61 #[.bool s, .slice A n c, .slice B m d] w (GQ w q) := by
  have h1 := rd_alloc h EQ0
  have k1 := rd_alloc k EQ0
  have lg : (dg G).length ≤ 16384 := by
    rcases Nat.eq_zero_or_pos Y with h0 | h0
    · have hx := rd_lt h hn
      rw [hX] at hx
      have : G = X := by rw [← hG, h0, Nat.gcd_zero_right]
      rw [this]; exact dg_le hx
    · have hy := rd_lt k hm
      rw [hY] at hy
      exact dg_le (Nat.lt_of_le_of_lt (by rw [← hG]; exact Nat.gcd_le_right _ h0) hy)
  obtain ⟨LG, hLG⟩ : ∃ L, (dg G).length = L := ⟨_, rfl⟩
  rw [hLG] at lg
  obtain ⟨R1, hR1⟩ : ∃ L, (dg (X % G)).length = L := ⟨_, rfl⟩
  obtain ⟨R2, hR2⟩ : ∃ L, (dg (Y % G)).length = L := ⟨_, rfl⟩
  have hLG2 : (dg (Nat.gcd X Y)).length = LG := by rw [hG]; exact hLG
  have HLG := hide hLG2
  have HLN := hide hLN
  have HLD := hide hLD
  have HR1 := hide hR1
  have HR2 := hide hR2
  have HX := hide hX
  have HY := hide hY
  have HG := hide (show val (dg (Nat.gcd X Y)) = G by rw [val_dg, hG])
  have HQ1 := hide hq1
  have HQ2 := hide hq2
  have HQ3 := hide hq3
  clear hLG hLG2 hLN hLD hR1 hR2 hX hY hG hq1 hq2 hq3
  go_enter Tryz.func61, Tryz.ntmps61
  go_wp2_with fail
  refine (rgcd_L _ _ _ _ _ _ _ _ _ X Y LG HX.out HY.out HLG.out h1 k1 hn hm).mono ?_
  rintro e w1 ⟨A1, c1, rfl, hg, b1⟩
  have h2 := h1.below b1
  have k2 := k1.below b1
  go_wp2_with fail
  refine (rdiv_L _ _ _ _ _ _ _ _ _ X G LN R1 HX.out HG.out HLN.out HR1.out hG0 h2 hg hn lg).mono ?_
  rintro e w2 ⟨A2, c2, B2, d2, rfl, hN, -, b2⟩
  have k3 := k2.below b2
  have hg2 := hg.below b2
  go_wp2_with fail
  refine (rdiv_L _ _ _ _ _ _ _ _ _ Y G LD R2 HY.out HG.out HLD.out HR2.out hG0 k3 hg2 hm lg).mono ?_
  rintro e w3 ⟨A3, c3, B3, d3, rfl, hD, -, b3⟩
  have hN3 := hN.below b3
  have b13 := below_then (below_then b1 (Nat.le_refl _) b2) (Nat.le_refl _) b3
  have hB : Below w.heap.size w w3 := below_then ((Below.refl _ _).alloc (Nat.le_refl _) _) (Nat.le_refl _) b13
  have hs := (Sq.new w (.bool false) (.slice none 0 0) (.slice none 0 0)).below b13 (by simp)
  have z0 := hs.cell0
  have z1 := hs.cell1
  have z2 := hs.cell2
  have z3 := hs.frozen 0
  have z4 := hs.frozen 1
  have z5 := hs.frozen 2
  have hLD2 : (((LD : Nat) : Int) == 1) = false := by simp; omega
  cases s
  · have hc : Cq w3 false A2 LN c2 A3 LD c3 q := ⟨by rw [HQ1.out]; exact hN3, by rw [qd, if_neg (by rw [HQ2.out]; exact hD1), HQ2.out]; exact hD, by rw [HQ3.out]; simp⟩
    go_wp2
    refine bodyPost_ret (v := .agg #[.bool false, .slice A2 LN c2, .slice A3 LD c3]) (by simp [results, Tryz.results61, go_sem, (hs.set0 (.bool false)).cell0, ((hs.set0 (.bool false)).set1 (.slice A2 LN c2)).cell1, (((hs.set0 (.bool false)).set1 (.slice A2 LN c2)).set2 (.slice A3 LD c3)).cell2]) rfl (gq_end hB (Nat.le_refl _) hs hc)
  · have hc : Cq w3 (decide (0 < LN)) A2 LN c2 A3 LD c3 q := ⟨by rw [HQ1.out]; exact hN3, by rw [qd, if_neg (by rw [HQ2.out]; exact hD1), HQ2.out]; exact hD, by rw [HQ3.out]; simp⟩
    go_wp2
    refine bodyPost_ret (v := .agg #[.bool (decide (0 < LN)), .slice A2 LN c2, .slice A3 LD c3]) (by simp [results, Tryz.results61, go_sem, (hs.set0 (.bool (decide (0 < LN)))).cell0, ((hs.set0 (.bool (decide (0 < LN)))).set1 (.slice A2 LN c2)).cell1, (((hs.set0 (.bool (decide (0 < LN)))).set1 (.slice A2 LN c2)).set2 (.slice A3 LD c3)).cell2]) rfl (gq_end hB (Nat.le_refl _) hs hc)
theorem quo_calls (s : Bool) (A B : Option Addr) (n m c d : Nat) (xs ys : List Nat) (w : World) (q : Rat) (hq : mkRat (iv s xs) (val ys) = q) (h0 : val ys ≠ 0) (h : Rd w A n c xs) (k : Rd w B m d ys) (hn : n ≤ 16384) (hm : m ≤ 16384) :
    Calls Tryz.prog 61 #[.bool s, .slice A n c, .slice B m d] w (GQ w q) := by
  have hg : 0 < Nat.gcd (val xs) (val ys) := Nat.gcd_pos_of_pos_right _ (by omega)
  obtain ⟨p1, p2, p3⟩ := quo_parts s (val xs) (val ys) h0
  have e : mkRat (if s then -(val xs : Int) else (val xs : Int)) (val ys) = q := hq
  rw [e] at p1 p2 p3
  have hl : decide (0 < val xs / Nat.gcd (val xs) (val ys)) = decide (0 < (dg (val xs / Nat.gcd (val xs) (val ys))).length) := by
    have : (dg (val xs / Nat.gcd (val xs) (val ys))).length = 0 ↔ val xs / Nat.gcd (val xs) (val ys) = 0 := by rw [List.length_eq_zero_iff, dg_nil_iff]
    simp only [decide_eq_decide]
    omega
  rw [hl] at p3
  by_cases hD : val ys / Nat.gcd (val xs) (val ys) = 1
  · exact quo_one s A B n m c d xs ys w _ _ _ _ q rfl rfl rfl hg rfl (by rw [hD, dg_small (by omega) (by omega)]; rfl) hD p1 p2 p3 h k hn hm
  · by_cases hL : (dg (val ys / Nat.gcd (val xs) (val ys))).length = 1
    · exact quo_big1 s A B n m c d xs ys w _ _ _ _ q rfl rfl rfl hg rfl hL hD p1 p2 p3 h k hn hm
    · exact quo_big s A B n m c d xs ys w _ _ _ _ _ q rfl rfl rfl hg rfl rfl hD hL p1 p2 p3 h k hn hm
end Go.Proofs.YtnddhohjfjlaiaaGreatDoor

/-
  The specification's Canon.
-/
namespace Go.Proofs.YtnddhohjfjlaiaaGreatDoor
open Go.RowKit
set_option linter.unusedVariables false
set_option linter.unusedSimpArgs false

theorem Sb.pastQ {w : World} {g g' : Nat} {v0 v1 u0 u1 u2 : Value} (h : Sb w g v0 v1) (hg : g ≠ g') : Sb (((w.setCell ⟨g', 0, none⟩ u0).setCell ⟨g', 1, none⟩ u1).setCell ⟨g', 2, none⟩ u2) g v0 v1 := ((h.far hg u0).far hg u1).far hg u2
theorem Sq.pastI {w : World} {g g' : Nat} {v0 v1 v2 u0 u1 : Value} (h : Sq w g v0 v1 v2) (hg : g ≠ g') : Sq ((w.setCell ⟨g', 0, none⟩ u0).setCell ⟨g', 1, none⟩ u1) g v0 v1 v2 := (h.far hg u0).far hg u1
theorem mk_rden (s : Bool) (xs ys : List Nat) : mkRat (iv s xs) (val (dg (rden ys))) = rv s xs ys := by rw [val_dg, rv]
theorem one_len {w : World} {B : Option Addr} {m d k : Nat} {ys : List Nat} (h : Rd w B m d ys) (hm : m ≤ k) (hk : 1 ≤ k) : (dg (rden ys)).length ≤ k := by
  unfold rden
  split
  · rw [dg_small (by omega) (by omega)]; exact hk
  · exact dg_le (rd_lt h hm)
theorem rcanon_q (s : Bool) (A : Option Addr) (n c : Nat) (B : Option Addr) (m d : Nat) (q : Rat) (w : World) (h : Iq w s A n c B m d q) (hn : n ≤ 16384) (hm : m ≤ 16384) :
    Calls Tryz.prog 37 #[.agg #[.bool s, .slice A n c, .slice B m d]] w (GQ w q) := by
  obtain ⟨xs, ys, hx, hy, hq⟩ := h
  obtain ⟨L, hL⟩ : ∃ L, (dg (rden ys)).length = L := ⟨_, rfl⟩
  have lL : L ≤ 16384 := by rw [← hL]; exact one_len hy hm (by omega)
  have HL := hide hL
  have HQ := hide ((mk_rden s xs ys).trans hq)
  have H0 := hide (show val (dg (rden ys)) ≠ 0 by rw [val_dg]; exact rden_pos ys)
  have hm2 : m ≤ 4194304 := by omega
  clear hL hq
  have hx_1 := hx.alloc (EQ s A n c B m d)
  have hy_1 := hy.alloc (EQ s A n c B m d)
  have bx_1 : Sq ((w).alloc (EQ s A n c B m d)) (w.heap.size) (.bool s) (.slice A n c) (.slice B m d) := by have h_ := Sq.new (w) (.bool s) (.slice A n c) (.slice B m d); exact h_
  have F1 := (Below.refl w.heap.size w).alloc (Nat.le_refl _) (EQ s A n c B m d)
  have hx_2 := hx_1.alloc EQ0
  have hy_2 := hy_1.alloc EQ0
  have bx_2 := bx_1.alloc EQ0
  have br_2 : Sq (((w).alloc (EQ s A n c B m d)).alloc EQ0) (w.heap.size + 1) (.bool false) (.slice none 0 0) (.slice none 0 0) := by have h_ := Sq.new ((w).alloc (EQ s A n c B m d)) (.bool false) (.slice none 0 0) (.slice none 0 0); simp only [World.size_alloc] at h_; exact h_
  have F2 := F1.alloc F1.size EQ0
  go_enter Tryz.func37, Tryz.ntmps37
  go_wp2_with fail
  have hx_3 := hx_2.drew
  have hy_3 := hy_2.drew
  have bx_3 := bx_2.drew
  have br_3 := br_2.drew
  have F3 := F2.drew
  go_region_held3 (fun w' => w'.cell? ⟨w.heap.size, 0, none⟩ = some (.bool s) ∧ w'.cell? ⟨w.heap.size, 1, none⟩ = some (.slice A n c) ∧ w'.cell? ⟨w.heap.size, 2, none⟩ = some (.slice B m d))
    (first
      | exact ⟨bx_p.cell0, bx_p.cell1, bx_p.cell2⟩
      | exact ⟨bx_5.cell0, bx_5.cell1, bx_5.cell2⟩
      | exact ⟨bx_4.cell0, bx_4.cell1, bx_4.cell2⟩
      | exact ⟨bx_3.cell0, bx_3.cell1, bx_3.cell2⟩
      | fail)
    (first
      | (go_at_call 62; (with_reducible refine (one_at _ _ _ _ _ _ L rfl HL.out hy_3 hm2).mono ?_); rintro e w4 ⟨A4, c4, rfl, o, b4⟩; have hx_4 := hx_3.below b4; have hy_4 := hy_3.below b4; have bx_4 := bx_3.below b4 bx_3.lt; have br_4 := br_3.below b4 br_3.lt; have F4 := below_then F3 (Nat.le_refl _) b4)
      | (go_at_call 61; (with_reducible refine (quo_calls _ _ _ _ _ _ _ _ _ _ _ HQ.out H0.out hx_4 o hn lL).mono ?_); rintro e w5 ⟨s5, A5, n5, c5, B5, m5, d5, rfl, k, b5⟩; have hx_5 := hx_4.below b5; have hy_5 := hy_4.below b5; have o_5 := o.below b5; have bx_5 := bx_4.below b5 bx_4.lt; have br_5 := br_4.below b5 br_4.lt; have F5 := below_then F4 (Nat.le_refl _) b5; have br_g0 := br_5.cell0; have br_h0 := br_5.frozen 0; have br_g1 := br_5.cell1; have br_h1 := br_5.frozen 1; have br_g2 := br_5.cell2; have br_h2 := br_5.frozen 2; have bx_p := bx_5.past (g' := w.heap.size + 1) (u0 := .bool s5) (u1 := .slice A5 n5 c5) (u2 := .slice B5 m5 d5) (by omega))
      | fail)
  go_wp2_with fail
  refine bodyPost_ret (v := .agg #[.bool s5, .slice A5 n5 c5, .slice B5 m5 d5]) (by simp [results, Tryz.results37, go_sem, (br_5.set0 (.bool s5)).cell0, ((br_5.set0 (.bool s5)).set1 (.slice A5 n5 c5)).cell1, (((br_5.set0 (.bool s5)).set1 (.slice A5 n5 c5)).set2 (.slice B5 m5 d5)).cell2]) rfl (gq_end F5 (by omega) br_5 k)
end Go.Proofs.YtnddhohjfjlaiaaGreatDoor

/-
  The specification's Same, Sign, Neg, Num, Den.
-/
namespace Go.Proofs.YtnddhohjfjlaiaaGreatDoor
open Go.RowKit
set_option linter.unusedVariables false
set_option linter.unusedSimpArgs false

theorem same_q (s t : Bool) (A B A' B' : Option Addr) (n c m d n' c' m' d' : Nat) (q : Rat) (w : World) (h : Cq w s A n c B m d q) (k : Cq w t A' n' c' B' m' d' q) (hn : n ≤ 16384) (hm : m ≤ 16384) :
    Calls Tryz.prog 23 #[.agg #[.bool s, .slice A n c, .slice B m d], .agg #[.bool t, .slice A' n' c', .slice B' m' d']] w (Asks w (.bool true)) := by
  have e1 : t = s := by rw [h.2.2, k.2.2]
  have e2 : n' = n := by rw [← h.1.len, ← k.1.len]
  have e3 : m' = m := by rw [← h.2.1.len, ← k.2.1.len]
  subst e1 e2 e3
  have hn2 : n' ≤ 1048576 := by omega
  have hm2 : m' ≤ 1048576 := by omega
  have h_1 := h.alloc (EQ t A n' c B m' d)
  have k_1 := k.alloc (EQ t A n' c B m' d)
  have ba_1 : Sq ((w).alloc (EQ t A n' c B m' d)) (w.heap.size) (.bool t) (.slice A n' c) (.slice B m' d) := by have h_ := Sq.new (w) (.bool t) (.slice A n' c) (.slice B m' d); exact h_
  have F1 := (Below.refl w.heap.size w).alloc (Nat.le_refl _) (EQ t A n' c B m' d)
  have h_2 := h_1.alloc (EQ t A' n' c' B' m' d')
  have k_2 := k_1.alloc (EQ t A' n' c' B' m' d')
  have ba_2 := ba_1.alloc (EQ t A' n' c' B' m' d')
  have bb_2 : Sq (((w).alloc (EQ t A n' c B m' d)).alloc (EQ t A' n' c' B' m' d')) (w.heap.size + 1) (.bool t) (.slice A' n' c') (.slice B' m' d') := by have h_ := Sq.new ((w).alloc (EQ t A n' c B m' d)) (.bool t) (.slice A' n' c') (.slice B' m' d'); simp only [World.size_alloc] at h_; exact h_
  have F2 := F1.alloc F1.size (EQ t A' n' c' B' m' d')
  go_enter Tryz.func23, Tryz.ntmps23
  go_wp2_with fail
  refine (same_b _ _ _ _ _ _ _ h_2.rn k_2.rn hn2).mono ?_
  rintro e w3 ⟨rfl, b3⟩
  have h_3 := h_2.below b3
  have k_3 := k_2.below b3
  have ba_3 := ba_2.below b3 ba_2.lt
  have bb_3 := bb_2.below b3 bb_2.lt
  have F3 := below_then F2 (Nat.le_refl _) b3
  have ba_u3 := ba_3.cell0
  have ba_v3 := ba_3.cell1
  have ba_w3 := ba_3.cell2
  have bb_u3 := bb_3.cell0
  have bb_v3 := bb_3.cell1
  have bb_w3 := bb_3.cell2
  go_wp2_with fail
  refine (same_b _ _ _ _ _ _ _ h_3.rd k_3.rd hm2).mono ?_
  rintro e w4 ⟨rfl, b4⟩
  have h_4 := h_3.below b4
  have k_4 := k_3.below b4
  have ba_4 := ba_3.below b4 ba_3.lt
  have bb_4 := bb_3.below b4 bb_3.lt
  have F4 := below_then F3 (Nat.le_refl _) b4
  have ba_u4 := ba_4.cell0
  have ba_v4 := ba_4.cell1
  have ba_w4 := ba_4.cell2
  have bb_u4 := bb_4.cell0
  have bb_v4 := bb_4.cell1
  have bb_w4 := bb_4.cell2
  go_wp2
  go_ret
  exact ⟨rfl, F4⟩
theorem sz_mul' (g k : Int) (hg : 0 < g) : sz (g * k) = sz k := by
  rcases Int.lt_trichotomy k 0 with h | h | h
  · have := Int.mul_neg_of_pos_of_neg hg h
    unfold sz
    rw [if_neg (by omega), if_pos (by omega), if_neg (by omega), if_pos h]
  · subst h; rw [Int.mul_zero]
  · have := Int.mul_pos hg h
    unfold sz
    rw [if_neg (by omega), if_neg (by omega), if_neg (by omega), if_neg (by omega)]
theorem sz_sign (s : Bool) (xs ys : List Nat) : sz (iv s xs) = sz (rv s xs ys).num := by
  have hg := rden_pos ys
  have e : rv s xs ys = mkRat (iv s xs) (rden ys) := rfl
  rw [e, Rat.num_mkRat, if_neg hg]
  have h0 : 0 < (rden ys).gcd (iv s xs).natAbs := Nat.gcd_pos_of_pos_left _ (by omega)
  have hd : (((rden ys).gcd (iv s xs).natAbs : Nat) : Int) ∣ iv s xs := Int.ofNat_dvd_left.2 (Nat.gcd_dvd_right _ _)
  generalize (rden ys).gcd (iv s xs).natAbs = g at h0 hd
  obtain ⟨k, hk⟩ := hd
  rw [hk, Int.mul_ediv_cancel_left _ (by omega)]
  have hs := sz_mul' (g : Int) k (by omega)
  exact hs
theorem rsign_q (s : Bool) (A : Option Addr) (n c : Nat) (B : Option Addr) (m d : Nat) (q : Rat) (r : Int) (w : World) (hr : sz q.num = r) (h : Iq w s A n c B m d q) (hn : n ≤ 16384) :
    Calls Tryz.prog 46 #[.agg #[.bool s, .slice A n c, .slice B m d]] w (Asks w (.int .i64 r)) := by
  obtain ⟨xs, ys, hx, hy, hq⟩ := h
  have HR := hide (show sz (iv s xs) = r by rw [sz_sign s xs ys, hq, hr])
  have hz : Iz w s A n c (iv s xs) := ⟨xs, hx, rfl⟩
  have hn2 : n ≤ 1048576 := by omega
  clear hq hr
  have hz_1 := hz.alloc (EQ s A n c B m d)
  have bx_1 : Sq ((w).alloc (EQ s A n c B m d)) (w.heap.size) (.bool s) (.slice A n c) (.slice B m d) := by have h_ := Sq.new (w) (.bool s) (.slice A n c) (.slice B m d); exact h_
  have F1 := (Below.refl w.heap.size w).alloc (Nat.le_refl _) (EQ s A n c B m d)
  go_enter Tryz.func46, Tryz.ntmps46
  go_wp2_with fail
  refine (rsign_int _ _ _ _ _ _ _ HR.out hz_1 hn2).mono ?_
  rintro e w2 ⟨rfl, b2⟩
  have hz_2 := hz_1.below b2
  have bx_2 := bx_1.below b2 bx_1.lt
  have F2 := below_then F1 (Nat.le_refl _) b2
  have bx_u2 := bx_2.cell0
  have bx_v2 := bx_2.cell1
  have bx_w2 := bx_2.cell2
  go_wp2
  go_ret
  exact ⟨rfl, F2⟩
theorem rv_neg (s : Bool) (xs ys : List Nat) : rv (!s) xs ys = - rv s xs ys := by
  rw [rv, rv, Rat.neg_mkRat]
  congr 1
  cases s <;> simp [iv]
theorem Iq.neg {w : World} {s : Bool} {A B : Option Addr} {n c m d : Nat} {q : Rat} (h : Iq w s A n c B m d q) : Iq w (!s) A n c B m d (-q) := by
  obtain ⟨xs, ys, h1, h2, rfl⟩ := h
  exact ⟨xs, ys, h1, h2, rv_neg s xs ys⟩
theorem rneg_q (s : Bool) (A : Option Addr) (n c : Nat) (B : Option Addr) (m d : Nat) (q : Rat) (w : World) (h : Iq w s A n c B m d q) (hn : n ≤ 16384) (hm : m ≤ 16384) :
    Calls Tryz.prog 74 #[.agg #[.bool s, .slice A n c, .slice B m d]] w (GQ w (-q)) := by
  have h := h.neg
  have h_1 := h.alloc (EQ (!s) A n c B m d)
  have bx_1 : Sq ((w).alloc (EQ (!s) A n c B m d)) (w.heap.size) (.bool (!s)) (.slice A n c) (.slice B m d) := by have h_ := Sq.new (w) (.bool (!s)) (.slice A n c) (.slice B m d); exact h_
  have F1 := (Below.refl w.heap.size w).alloc (Nat.le_refl _) (EQ (!s) A n c B m d)
  have h_2 := h_1.alloc EQ0
  have bx_2 := bx_1.alloc EQ0
  have br_2 : Sq (((w).alloc (EQ (!s) A n c B m d)).alloc EQ0) (w.heap.size + 1) (.bool false) (.slice none 0 0) (.slice none 0 0) := by have h_ := Sq.new ((w).alloc (EQ (!s) A n c B m d)) (.bool false) (.slice none 0 0) (.slice none 0 0); simp only [World.size_alloc] at h_; exact h_
  have F2 := F1.alloc F1.size EQ0
  go_enter Tryz.func74, Tryz.ntmps74
  go_wp2_with fail
  refine (rcanon_q _ _ _ _ _ _ _ _ _ h_2 hn hm).mono ?_
  rintro e w3 ⟨s3, A3, n3, c3, B3, m3, d3, rfl, k, b3⟩
  have h_3 := h_2.below b3
  have bx_3 := bx_2.below b3 bx_2.lt
  have br_3 := br_2.below b3 br_2.lt
  have F3 := below_then F2 (Nat.le_refl _) b3
  have bx_u3 := bx_3.cell0
  have bx_v3 := bx_3.cell1
  have bx_w3 := bx_3.cell2
  have br_u3 := br_3.cell0
  have br_v3 := br_3.cell1
  have br_w3 := br_3.cell2
  have br_f03 := br_3.frozen 0
  have br_f13 := br_3.frozen 1
  have br_f23 := br_3.frozen 2
  go_wp2_with fail
  refine bodyPost_ret (v := .agg #[.bool s3, .slice A3 n3 c3, .slice B3 m3 d3]) (by simp [results, Tryz.results74, go_sem, (br_3.set0 (.bool s3)).cell0, ((br_3.set0 (.bool s3)).set1 (.slice A3 n3 c3)).cell1, (((br_3.set0 (.bool s3)).set1 (.slice A3 n3 c3)).set2 (.slice B3 m3 d3)).cell2]) rfl (gq_end F3 (by omega) br_3 k)
theorem Cq.num {w : World} {s : Bool} {A B : Option Addr} {n c m d : Nat} {q : Rat} (h : Cq w s A n c B m d q) : Cz w s A n c q.num := ⟨h.1, h.2.2⟩
theorem Cq.storQ {w : World} {g : Nat} {s0 : Bool} {A0 B0 : Option Addr} {n0 c0 m0 d0 : Nat} (hs : Sq w g (.bool s0) (.slice A0 n0 c0) (.slice B0 m0 d0)) (u0 u1 u2 : Value) {s : Bool} {A B : Option Addr} {n c m d : Nat} {q : Rat} (h : Cq w s A n c B m d q) :
    Cq (((w.setCell ⟨g, 0, none⟩ u0).setCell ⟨g, 1, none⟩ u1).setCell ⟨g, 2, none⟩ u2) s A n c B m d q := ⟨h.1.storQ hs _ _ _, h.2.1.storQ hs _ _ _, h.2.2⟩
theorem rden_q (s : Bool) (A : Option Addr) (n c : Nat) (B : Option Addr) (m d : Nat) (q : Rat) (L : Nat) (w : World) (hL : (dg q.den).length = L) (h : Iq w s A n c B m d q) (hn : n ≤ 16384) (hm : m ≤ 16384) (K : Nat) (hK : K ≤ 16384) (hq : q.den < pw K) :
    Calls Tryz.prog 55 #[.agg #[.bool s, .slice A n c, .slice B m d]] w fun e w' => ∃ A1 c1, e = .returned (.slice A1 L c1) ∧ Rd w' A1 L c1 (dg q.den) ∧ Below w.heap.size w w' := by
  have HL := hide hL
  have HQ := hide (show ∀ (w' : World) (s' : Bool) (A' B' : Option Addr) (n' c' m' d' : Nat), Cq w' s' A' n' c' B' m' d' q → m' ≤ 4194304 from fun _ _ _ _ _ _ _ _ hc => Nat.le_trans (hc.ld hq) (by omega))
  clear hL hq
  have h_1 := h.alloc (EQ s A n c B m d)
  have bx_1 : Sq ((w).alloc (EQ s A n c B m d)) (w.heap.size) (.bool s) (.slice A n c) (.slice B m d) := by have h_ := Sq.new (w) (.bool s) (.slice A n c) (.slice B m d); exact h_
  have F1 := (Below.refl w.heap.size w).alloc (Nat.le_refl _) (EQ s A n c B m d)
  go_enter Tryz.func55, Tryz.ntmps55
  go_wp2_with fail
  refine (rcanon_q _ _ _ _ _ _ _ _ _ h_1 hn hm).mono ?_
  rintro e w2 ⟨s2, A2, n2, c2, B2, m2, d2, rfl, k, b2⟩
  have h_2 := h_1.below b2
  have bx_2 := bx_1.below b2 bx_1.lt
  have F2 := below_then F1 (Nat.le_refl _) b2
  have bx_u2 := bx_2.cell0
  have bx_v2 := bx_2.cell1
  have bx_w2 := bx_2.cell2
  have hm2 := HQ.out _ _ _ _ _ _ _ _ k
  have hfd : ∀ (a b c : Value) (w : World), (Instr.field 25 (.agg #[a, b, c]) 2).run Tryz.prog w = .ok c w := fun _ _ _ _ => by kernel_rfl
  go_wp2_with fail
  refine (one_at _ _ _ _ _ _ L (rden_qd q) HL.out k.rd hm2).mono ?_
  rintro e w3 ⟨A3, c3, rfl, o, b3⟩
  have h_3 := h_2.below b3
  have k_3 := k.below b3
  have bx_3 := bx_2.below b3 bx_2.lt
  have F3 := below_then F2 (Nat.le_refl _) b3
  have bx_u3 := bx_3.cell0
  have bx_v3 := bx_3.cell1
  have bx_w3 := bx_3.cell2
  go_wp2
  go_ret
  exact ⟨_, _, rfl, o, F3⟩
end Go.Proofs.YtnddhohjfjlaiaaGreatDoor

/-
  The specification's comparison of lists and of values.
-/
namespace Go.Proofs.YtnddhohjfjlaiaaGreatDoor
open Go.RowKit
set_option linter.unusedVariables false
set_option linter.unusedSimpArgs false

theorem rsame_calls (A B : Option Addr) (n m c d : Nat) (xs ys : List Nat) (w : World) (b : Bool) (hb : decide (xs = ys) = b) (h : Rd w A n c xs) (h2 : Rd w B m d ys) (hn : n ≤ 1048576) (hm : m ≤ 1048576) :
    Calls Tryz.prog 38 #[.slice A n c, .slice B m d] w fun e w' => e = .returned (.bool b) ∧ ∃ q, w' = w.drewN q := by
  by_cases hnm : n = m
  · subst hnm
    have hnn : ((n : Int) != (n : Int)) = false := by simp
    have HB := hide hb
    have HL := hide (And.intro h.len h2.len)
    clear hb
    go_enter Tryz.func38, Tryz.ntmps38
    go_wp2
    go_loopw [5] (fun i wr => ∃ k q : Nat, k ≤ n ∧ i = .int .i64 k ∧ wr = w.drewN q ∧ Hid (∀ j, j < k → lim xs j = lim ys j)) (fun i _ => n - (intOf i).toNat)
    case atStart => exact ⟨0, 0, by omega, rfl, rfl, fun j hj => absurd hj (by omega)⟩
    case round =>
      obtain ⟨k, q, hk, rfl, rfl, HI⟩ := hrel
      by_cases hkn : k < n
      · obtain ⟨bb, off, rfl, _, hc⟩ := h.get hkn
        obtain ⟨bb2, off2, rfl, _, hc2⟩ := h2.get hkn
        obtain ⟨x, hx⟩ : ∃ x, lim xs k = x := ⟨_, rfl⟩
        obtain ⟨y, hy⟩ : ∃ y, lim ys k = y := ⟨_, rfl⟩
        rw [hx] at hc
        rw [hy] at hc2
        have HX := hide hx
        have HY := hide hy
        clear h h2 hx hy
        by_cases hxy : x = y
        · have hne : (((x : Nat) : Int) != ((y : Nat) : Int)) = false := by simp [hxy]
          have HE := hide hxy
          clear hxy
          go_wp2
          go_quiet (fail)
          go_wp2
          go_roundw
          case rel => exact ⟨k + 1, _, by omega, by go_num, rfl, fun j hj => by
            rcases Nat.lt_or_ge j k with h1 | h1
            · exact HI.out j h1
            · obtain rfl : j = k := by omega
              rw [HX.out, HY.out, HE.out]⟩
          case measure => simp [intOf]; omega
        · have hne : (((x : Nat) : Int) != ((y : Nat) : Int)) = true := by simp; omega
          have hb2 : b = false := by
            rw [← HB.out]
            simp only [decide_eq_false_iff_not]
            intro e
            exact hxy (by rw [← HX.out, ← HY.out, e])
          subst hb2
          clear hxy
          go_wp2
          go_quiet (fail)
          go_wp2
          go_ret
          exact ⟨rfl, drewN2 _ _ _⟩
      · obtain rfl : k = n := by omega
        have hb2 : b = true := by
          rw [← HB.out]
          simp only [decide_eq_true_eq]
          have h1 := HL.out.1
          have h2' := HL.out.2
          exact List.ext_getElem (by omega) fun i hi hi2 => by
            have := HI.out i (by omega)
            rwa [lim_get hi, lim_get hi2] at this
        subst hb2
        go_wp2
        go_ret
        exact ⟨rfl, _, rfl⟩
  · have hne : ((n : Int) != (m : Int)) = true := by simp; omega
    have hb2 : b = false := by
      rw [← hb]
      simp only [decide_eq_false_iff_not]
      intro e
      exact hnm (by rw [← h.len, ← h2.len, e])
    subst hb2
    clear hnm hb
    go_enter Tryz.func38, Tryz.ntmps38
    go_wp2
    go_ret
    exact ⟨rfl, 0, rfl⟩
theorem rsame_ask (A B : Option Addr) (n m c d : Nat) (xs ys : List Nat) (w : World) (b : Bool) (hb : decide (xs = ys) = b) (h : Rd w A n c xs) (h2 : Rd w B m d ys) (hn : n ≤ 1048576) (hm : m ≤ 1048576) :
    Calls Tryz.prog 38 #[.slice A n c, .slice B m d] w (Asks w (.bool b)) :=
  (rsame_calls A B n m c d xs ys w b hb h h2 hn hm).mono fun _ _ ⟨he, q, hw⟩ => ⟨he, by rw [hw]; exact below_drewN (Below.refl _ _) q⟩
theorem same_any (s t : Bool) (A B A' B' : Option Addr) (n c m d n' c' m' d' : Nat) (xs ys xs' ys' : List Nat) (w : World) (b1 b2 : Bool) (h1 : decide (xs = xs') = b1) (h2 : decide (ys = ys') = b2)
    (hx : Rd w A n c xs) (hy : Rd w B m d ys) (kx : Rd w A' n' c' xs') (ky : Rd w B' m' d' ys') (hn : n ≤ 16384) (hm : m ≤ 16384) (hn' : n' ≤ 16384) (hm' : m' ≤ 16384) :
    Calls Tryz.prog 23 #[.agg #[.bool s, .slice A n c, .slice B m d], .agg #[.bool t, .slice A' n' c', .slice B' m' d']] w (Asks w (.bool ((s == t) && b1 && b2))) := by
  have n1 : n ≤ 1048576 := by omega
  have n2 : m ≤ 1048576 := by omega
  have n3 : n' ≤ 1048576 := by omega
  have n4 : m' ≤ 1048576 := by omega
  have H1 := hide h1
  have H2 := hide h2
  clear h1 h2
  by_cases hst : s = t
  · subst hst
    have est : (s == s) = true := by simp
    rw [est]
    cases b1
    · have hx_1 := hx.alloc (EQ s A n c B m d)
      have hy_1 := hy.alloc (EQ s A n c B m d)
      have kx_1 := kx.alloc (EQ s A n c B m d)
      have ky_1 := ky.alloc (EQ s A n c B m d)
      have ba_1 : Sq ((w).alloc (EQ s A n c B m d)) (w.heap.size) (.bool s) (.slice A n c) (.slice B m d) := by have h_ := Sq.new (w) (.bool s) (.slice A n c) (.slice B m d); exact h_
      have F1 := (Below.refl w.heap.size w).alloc (Nat.le_refl _) (EQ s A n c B m d)
      have hx_2 := hx_1.alloc (EQ s A' n' c' B' m' d')
      have hy_2 := hy_1.alloc (EQ s A' n' c' B' m' d')
      have kx_2 := kx_1.alloc (EQ s A' n' c' B' m' d')
      have ky_2 := ky_1.alloc (EQ s A' n' c' B' m' d')
      have ba_2 := ba_1.alloc (EQ s A' n' c' B' m' d')
      have bb_2 : Sq (((w).alloc (EQ s A n c B m d)).alloc (EQ s A' n' c' B' m' d')) (w.heap.size + 1) (.bool s) (.slice A' n' c') (.slice B' m' d') := by have h_ := Sq.new ((w).alloc (EQ s A n c B m d)) (.bool s) (.slice A' n' c') (.slice B' m' d'); simp only [World.size_alloc] at h_; exact h_
      have F2 := F1.alloc F1.size (EQ s A' n' c' B' m' d')
      go_enter Tryz.func23, Tryz.ntmps23
      go_wp2_with fail
      refine (rsame_ask _ _ _ _ _ _ _ _ _ false H1.out hx_2 kx_2 n1 n3).mono ?_
      rintro e w3 ⟨rfl, b3⟩
      have hx_3 := hx_2.below b3
      have hy_3 := hy_2.below b3
      have kx_3 := kx_2.below b3
      have ky_3 := ky_2.below b3
      have ba_3 := ba_2.below b3 ba_2.lt
      have bb_3 := bb_2.below b3 bb_2.lt
      have F3 := below_then F2 (Nat.le_refl _) b3
      have ba_u3 := ba_3.cell0
      have ba_v3 := ba_3.cell1
      have ba_w3 := ba_3.cell2
      have bb_u3 := bb_3.cell0
      have bb_v3 := bb_3.cell1
      have bb_w3 := bb_3.cell2
      go_wp2
      go_ret
      exact ⟨rfl, F3⟩
    · have hx_1 := hx.alloc (EQ s A n c B m d)
      have hy_1 := hy.alloc (EQ s A n c B m d)
      have kx_1 := kx.alloc (EQ s A n c B m d)
      have ky_1 := ky.alloc (EQ s A n c B m d)
      have ba_1 : Sq ((w).alloc (EQ s A n c B m d)) (w.heap.size) (.bool s) (.slice A n c) (.slice B m d) := by have h_ := Sq.new (w) (.bool s) (.slice A n c) (.slice B m d); exact h_
      have F1 := (Below.refl w.heap.size w).alloc (Nat.le_refl _) (EQ s A n c B m d)
      have hx_2 := hx_1.alloc (EQ s A' n' c' B' m' d')
      have hy_2 := hy_1.alloc (EQ s A' n' c' B' m' d')
      have kx_2 := kx_1.alloc (EQ s A' n' c' B' m' d')
      have ky_2 := ky_1.alloc (EQ s A' n' c' B' m' d')
      have ba_2 := ba_1.alloc (EQ s A' n' c' B' m' d')
      have bb_2 : Sq (((w).alloc (EQ s A n c B m d)).alloc (EQ s A' n' c' B' m' d')) (w.heap.size + 1) (.bool s) (.slice A' n' c') (.slice B' m' d') := by have h_ := Sq.new ((w).alloc (EQ s A n c B m d)) (.bool s) (.slice A' n' c') (.slice B' m' d'); simp only [World.size_alloc] at h_; exact h_
      have F2 := F1.alloc F1.size (EQ s A' n' c' B' m' d')
      go_enter Tryz.func23, Tryz.ntmps23
      go_wp2_with fail
      refine (rsame_ask _ _ _ _ _ _ _ _ _ true H1.out hx_2 kx_2 n1 n3).mono ?_
      rintro e w3 ⟨rfl, b3⟩
      have hx_3 := hx_2.below b3
      have hy_3 := hy_2.below b3
      have kx_3 := kx_2.below b3
      have ky_3 := ky_2.below b3
      have ba_3 := ba_2.below b3 ba_2.lt
      have bb_3 := bb_2.below b3 bb_2.lt
      have F3 := below_then F2 (Nat.le_refl _) b3
      have ba_u3 := ba_3.cell0
      have ba_v3 := ba_3.cell1
      have ba_w3 := ba_3.cell2
      have bb_u3 := bb_3.cell0
      have bb_v3 := bb_3.cell1
      have bb_w3 := bb_3.cell2
      go_wp2_with fail
      refine (rsame_ask _ _ _ _ _ _ _ _ _ b2 H2.out hy_3 ky_3 n2 n4).mono ?_
      rintro e w4 ⟨rfl, b4⟩
      have hx_4 := hx_3.below b4
      have hy_4 := hy_3.below b4
      have kx_4 := kx_3.below b4
      have ky_4 := ky_3.below b4
      have ba_4 := ba_3.below b4 ba_3.lt
      have bb_4 := bb_3.below b4 bb_3.lt
      have F4 := below_then F3 (Nat.le_refl _) b4
      have ba_u4 := ba_4.cell0
      have ba_v4 := ba_4.cell1
      have ba_w4 := ba_4.cell2
      have bb_u4 := bb_4.cell0
      have bb_v4 := bb_4.cell1
      have bb_w4 := bb_4.cell2
      go_wp2
      go_ret
      exact ⟨rfl, F4⟩
  · have est : (s == t) = false := by cases s <;> cases t <;> simp_all
    rw [est]
    have ba_1 : Sq ((w).alloc (EQ s A n c B m d)) (w.heap.size) (.bool s) (.slice A n c) (.slice B m d) := by have h_ := Sq.new (w) (.bool s) (.slice A n c) (.slice B m d); exact h_
    have F1 := (Below.refl w.heap.size w).alloc (Nat.le_refl _) (EQ s A n c B m d)
    have ba_2 := ba_1.alloc (EQ t A' n' c' B' m' d')
    have bb_2 : Sq (((w).alloc (EQ s A n c B m d)).alloc (EQ t A' n' c' B' m' d')) (w.heap.size + 1) (.bool t) (.slice A' n' c') (.slice B' m' d') := by have h_ := Sq.new ((w).alloc (EQ s A n c B m d)) (.bool t) (.slice A' n' c') (.slice B' m' d'); simp only [World.size_alloc] at h_; exact h_
    have F2 := F1.alloc F1.size (EQ t A' n' c' B' m' d')
    go_enter Tryz.func23, Tryz.ntmps23
    go_wp2
    go_ret
    exact ⟨rfl, F2⟩
end Go.Proofs.YtnddhohjfjlaiaaGreatDoor

/-
  The specification's Valid, Of, Whole, Make.
-/
namespace Go.Proofs.YtnddhohjfjlaiaaGreatDoor
open Go.RowKit
set_option linter.unusedVariables false
set_option linter.unusedSimpArgs false

theorem same_canon (s : Bool) (A : Option Addr) (n c : Nat) (B : Option Addr) (m d : Nat) (s' : Bool) (A' B' : Option Addr) (n' c' m' d' : Nat) (xs ys : List Nat) (q : Rat) (b : Bool) (w : World) (K : Nat) (hb : ((s == decide (q.num < 0)) && decide (xs = dg q.num.natAbs) && decide (ys = qd q)) = b) (hK : K ≤ 16384) (l1 : q.num.natAbs < pw K) (l2 : q.den < pw K) (hc : Cq w s' A' n' c' B' m' d' q) (hx : Rd w A n c xs) (hy : Rd w B m d ys) (hn : n ≤ 16384) (hm : m ≤ 16384) :
    Calls Tryz.prog 23 #[.agg #[.bool s, .slice A n c, .slice B m d], .agg #[.bool s', .slice A' n' c', .slice B' m' d']] w (Asks w (.bool b)) := by
  have h1 := Nat.le_trans (hc.ln l1) hK
  have h2 := Nat.le_trans (hc.ld l2) hK
  have := same_any s s' A B A' B' n c m d n' c' m' d' _ _ _ _ w _ _ rfl rfl hx hy hc.rn hc.rd hn hm h1 h2
  rw [hc.2.2, hb] at this
  rw [hc.2.2]
  exact this
theorem rvalid_q (s : Bool) (A : Option Addr) (n c : Nat) (B : Option Addr) (m d : Nat) (xs ys : List Nat) (q : Rat) (b : Bool) (w : World) (hb : ((s == decide (q.num < 0)) && decide (xs = dg q.num.natAbs) && decide (ys = qd q)) = b) (hq : rv s xs ys = q) (hx : Rd w A n c xs) (hy : Rd w B m d ys) (hn : n ≤ 16384) (hm : m ≤ 16384)
    (K : Nat) (hK : K ≤ 16384) (l1 : q.num.natAbs < pw K) (l2 : q.den < pw K) :
    Calls Tryz.prog 29 #[.agg #[.bool s, .slice A n c, .slice B m d]] w (Asks w (.bool b)) := by
  have h : Iq w s A n c B m d q := ⟨xs, ys, hx, hy, hq⟩
  have HB := hide hb
  clear hb hq
  have h_1 := h.alloc (EQ s A n c B m d)
  have hx_1 := hx.alloc (EQ s A n c B m d)
  have hy_1 := hy.alloc (EQ s A n c B m d)
  have bx_1 : Sq ((w).alloc (EQ s A n c B m d)) (w.heap.size) (.bool s) (.slice A n c) (.slice B m d) := by have h_ := Sq.new (w) (.bool s) (.slice A n c) (.slice B m d); exact h_
  have F1 := (Below.refl w.heap.size w).alloc (Nat.le_refl _) (EQ s A n c B m d)
  go_enter Tryz.func29, Tryz.ntmps29
  go_wp2_with fail
  have h_2 := h_1.drew
  have hx_2 := hx_1.drew
  have hy_2 := hy_1.drew
  have bx_2 := bx_1.drew
  have F2 := F1.drew
  go_region_held3 (fun w' => w'.cell? ⟨w.heap.size, 0, none⟩ = some (.bool s) ∧ w'.cell? ⟨w.heap.size, 1, none⟩ = some (.slice A n c) ∧ w'.cell? ⟨w.heap.size, 2, none⟩ = some (.slice B m d))
    (first
      | exact ⟨bx_4.cell0, bx_4.cell1, bx_4.cell2⟩
      | exact ⟨bx_3.cell0, bx_3.cell1, bx_3.cell2⟩
      | exact ⟨bx_2.cell0, bx_2.cell1, bx_2.cell2⟩
      | fail)
    (first
      | (go_at_call 37; (with_reducible refine (rcanon_q _ _ _ _ _ _ _ _ _ h_2 hn hm).mono ?_); rintro e w3 ⟨s3, A3, n3, c3, B3, m3, d3, rfl, k, b3⟩; have h_3 := h_2.below b3; have hx_3 := hx_2.below b3; have hy_3 := hy_2.below b3; have bx_3 := bx_2.below b3 bx_2.lt; have F3 := below_then F2 (Nat.le_refl _) b3)
      | (go_at_call 23; (with_reducible refine (same_canon _ _ _ _ _ _ _ _ _ _ _ _ _ _ _ _ _ _ _ K HB.out hK l1 l2 k hx_3 hy_3 hn hm).mono ?_); rintro e w4 ⟨rfl, b4⟩; have h_4 := h_3.below b4; have hx_4 := hx_3.below b4; have hy_4 := hy_3.below b4; have k_4 := k.below b4; have bx_4 := bx_3.below b4 bx_3.lt; have F4 := below_then F3 (Nat.le_refl _) b4)
      | fail)
  have bx_u4 := bx_4.cell0
  have bx_v4 := bx_4.cell1
  have bx_w4 := bx_4.cell2
  go_wp2
  go_ret
  exact ⟨rfl, F4⟩
theorem cq_int {w : World} {s : Bool} {A : Option Addr} {n c : Nat} {z : Int} (h : Cz w s A n c z) : Cq w s A n c none 0 0 (z : Rat) := ⟨by simpa using h.1, by unfold qd; simpa using Rd.empty w none 0, h.2⟩
theorem iq_int {w : World} {s : Bool} {A : Option Addr} {n c : Nat} {z : Int} (h : Iz w s A n c z) : Iq w s A n c none 0 0 (z : Rat) := by
  obtain ⟨xs, h1, h2⟩ := h
  refine ⟨xs, [], h1, Rd.empty _ _ _, ?_⟩
  rw [rv, h2, show rden [] = 1 from rfl]
  have := mk_num_den (n := z) (d := 1) (by decide) (by simp)
  exact Rat.ext this.1 this.2
theorem rof_q (x : Int) (w : World) (h1 : -9223372036854775808 ≤ x) (h2 : x ≤ 9223372036854775807) : Calls Tryz.prog 27 #[.int .i64 x] w (GQ w (x : Rat)) := by
  have br_1 : Sq ((w).alloc EQ0) (w.heap.size) (.bool false) (.slice none 0 0) (.slice none 0 0) := by have h_ := Sq.new (w) (.bool false) (.slice none 0 0) (.slice none 0 0); exact h_
  have F1 := (Below.refl w.heap.size w).alloc (Nat.le_refl _) EQ0
  go_enter Tryz.func27, Tryz.ntmps27
  go_wp2_with fail
  refine (rofint_int x _ h1 h2).mono ?_
  rintro e w2 ⟨s2, A2, n2, c2, rfl, z, b2⟩
  have br_2 := br_1.below b2 br_1.lt
  have F2 := below_then F1 (Nat.le_refl _) b2
  have br_u2 := br_2.cell0
  have br_v2 := br_2.cell1
  have br_w2 := br_2.cell2
  have z_3 := z.alloc (EI s2 A2 n2 c2)
  have br_3 := br_2.alloc (EI s2 A2 n2 c2)
  have bn_3 : Sb ((w2).alloc (EI s2 A2 n2 c2)) (w2.heap.size) (.bool s2) (.slice A2 n2 c2) := by have h_ := Sb.new (w2) (.bool s2) (.slice A2 n2 c2); exact h_
  have F3 := F2.alloc F2.size (EI s2 A2 n2 c2)
  have br_u3 := br_3.cell0
  have br_v3 := br_3.cell1
  have br_w3 := br_3.cell2
  have bn_u3 := bn_3.cell0
  have bn_v3 := bn_3.cell1
  have br_f03 := br_3.frozen 0
  have br_f13 := br_3.frozen 1
  have br_f23 := br_3.frozen 2
  go_wp2_with fail
  refine bodyPost_ret (v := .agg #[.bool s2, .slice A2 n2 c2, .slice none 0 0]) (by simp [results, Tryz.results27, go_sem, (br_3.set0 (.bool s2)).cell0, ((br_3.set0 (.bool s2)).set1 (.slice A2 n2 c2)).cell1, (((br_3.set0 (.bool s2)).set1 (.slice A2 n2 c2)).set2 (.slice none 0 0)).cell2]) rfl (gq_end F3 (by omega) br_3 (cq_int z_3))
theorem gqe_end {w w2 : World} {g : Nat} {s s0 : Bool} {A A0 B B0 : Option Addr} {n c n0 c0 m d m0 d0 : Nat} {q : Rat} (r : Int) (hB : Below w.heap.size w w2) (hg : w.heap.size ≤ g) (hs : Sq w2 g (.bool s0) (.slice A0 n0 c0) (.slice B0 m0 d0)) (hc : Cq w2 s A n c B m d q) :
    GQE w q r (.returned (.tuple #[.agg #[.bool s, .slice A n c, .slice B m d], .int .i64 r])) (((w2.setCell ⟨g, 0, none⟩ (.bool s)).setCell ⟨g, 1, none⟩ (.slice A n c)).setCell ⟨g, 2, none⟩ (.slice B m d)) :=
  ⟨_, _, _, _, _, _, _, rfl, hc.storQ hs _ _ _, below_storQ hB hg⟩
theorem cq_zero (w : World) : Cq w false none 0 0 none 0 0 0 := ⟨Rd.empty _ _ _, by unfold qd; simpa using Rd.empty w none 0, rfl⟩
theorem inv_opp (a : Rat) : (-a)⁻¹ = -a⁻¹ := by grind
theorem mk_div (s t : Bool) (xs ys : List Nat) : mkRat (iv (!s == t) xs) (val ys) = (iv s xs : Rat) / (iv t ys : Rat) := by
  rw [Rat.mkRat_eq_div]
  cases s <;> cases t <;> simp [iv, Rat.intCast_neg, Rat.div_def, Rat.neg_mul, Rat.mul_neg, inv_opp, Rat.intCast_natCast]
end Go.Proofs.YtnddhohjfjlaiaaGreatDoor

/-
  The specification's Add.
-/
namespace Go.Proofs.YtnddhohjfjlaiaaGreatDoor
open Go.RowKit
set_option linter.unusedVariables false
set_option linter.unusedSimpArgs false

theorem Cz.rn {w : World} {s : Bool} {A : Option Addr} {n c : Nat} {z : Int} (h : Cz w s A n c z) : Rd w A n c (dg z.natAbs) := h.1
theorem Rd.storI {w : World} {A : Option Addr} {n c : Nat} {xs : List Nat} (h : Rd w A n c xs) {g : Nat} {s0 : Bool} {B : Option Addr} {l d : Nat} (hs : Sb w g (.bool s0) (.slice B l d)) (u0 u1 : Value) : Rd ((w.setCell ⟨g, 0, none⟩ u0).setCell ⟨g, 1, none⟩ u1) A n c xs := by
  have ha := h.away hs
  exact (h.far ha _ _).far ha _ _
/-- The size of a number: its numerator and denominator have at most k limbs. -/
def Qs (k : Nat) (q : Rat) : Prop := q.num.natAbs < pw k ∧ q.den < pw k
theorem mk_size (n : Int) (d : Nat) (hd : d ≠ 0) : (mkRat n d).num.natAbs ≤ n.natAbs ∧ (mkRat n d).den ≤ d := by
  rw [Rat.num_mkRat, Rat.den_mkRat, if_neg hd, if_neg hd]
  exact ⟨Int.natAbs_ediv_le_natAbs _ _, Nat.div_le_self _ _⟩
theorem pw_lt' {x j k : Nat} (h : x < pw j) (hjk : j ≤ k) : x < pw k := Nat.lt_of_lt_of_le h (pw_mono hjk)
theorem Qs.mono {j k : Nat} {q : Rat} (h : Qs j q) (hk : j ≤ k) : Qs k q := ⟨pw_lt' h.1 hk, pw_lt' h.2 hk⟩
theorem Iq.size {w : World} {s : Bool} {A B : Option Addr} {n c m d k : Nat} {q : Rat} (h : Iq w s A n c B m d q) (hn : n ≤ k) (hm : m ≤ k) (hk : 1 ≤ k) : Qs k q := by
  obtain ⟨xs, ys, h1, h2, rfl⟩ := h
  have := mk_size (iv s xs) (rden ys) (rden_pos ys)
  rw [iv_abs] at this
  refine ⟨Nat.lt_of_le_of_lt this.1 (rd_lt h1 hn), Nat.lt_of_le_of_lt this.2 ?_⟩
  unfold rden
  split
  · exact Nat.lt_of_lt_of_le (by decide : 1 < pw 1) (pw_mono hk)
  · exact rd_lt h2 hm
theorem size_neg {k : Nat} {q : Rat} (h : Qs k q) : Qs k (-q) := by
  unfold Qs at *
  simpa using h
theorem size_add {j k : Nat} {p q : Rat} (h : Qs j p) (hk : Qs k q) : Qs (j + k + 1) (p + q) := by
  rw [Rat.add_def']
  have hs := mk_size (p.num * q.den + q.num * p.den) (p.den * q.den) (by have := p.den_nz; have := q.den_nz; exact Nat.mul_ne_zero p.den_nz q.den_nz)
  have m1 := mul_pw h.1 hk.2
  have m2 := mul_pw hk.1 h.2
  have m3 := mul_pw h.2 hk.2
  have e1 : (p.num * (q.den : Int)).natAbs = p.num.natAbs * q.den := by rw [Int.natAbs_mul]; rfl
  have e2 : (q.num * (p.den : Int)).natAbs = q.num.natAbs * p.den := by rw [Int.natAbs_mul]; rfl
  have ha := Int.natAbs_add_le (p.num * (q.den : Int)) (q.num * (p.den : Int))
  rw [e1, e2] at ha
  rw [Nat.add_comm k j] at m2
  have hp : 2 * pw (j + k) ≤ pw (j + k + 1) := by rw [pw]; omega
  exact ⟨by omega, by omega⟩
theorem size_sub {j k : Nat} {p q : Rat} (h : Qs j p) (hk : Qs k q) : Qs (j + k + 1) (p - q) := by
  rw [Rat.sub_eq_add_neg]
  exact size_add h (size_neg hk)
theorem size_mul {j k : Nat} {p q : Rat} (h : Qs j p) (hk : Qs k q) : Qs (j + k) (p * q) := by
  rw [Rat.mul_def']
  have hs := mk_size (p.num * q.num) (p.den * q.den) (Nat.mul_ne_zero p.den_nz q.den_nz)
  have m1 := mul_pw h.1 hk.1
  have m3 := mul_pw h.2 hk.2
  rw [Int.natAbs_mul] at hs
  exact ⟨by omega, by omega⟩
theorem size_inv {k : Nat} {q : Rat} (h : Qs k q) (hk : 1 ≤ k) : Qs k q⁻¹ := by
  have h1 : 1 < pw k := Nat.lt_of_lt_of_le (by decide : 1 < pw 1) (pw_mono hk)
  refine ⟨?_, ?_⟩
  · rw [Rat.num_inv, Int.natAbs_mul, Int.natAbs_sign]
    split
    · simp; omega
    · simpa using h.2
  · rw [Rat.den_inv]
    split
    · exact h1
    · exact h.1
theorem size_div {j k : Nat} {p q : Rat} (h : Qs j p) (hk : Qs k q) (h1 : 1 ≤ k) : Qs (j + k) (p / q) := by
  rw [Rat.div_def]
  exact size_mul h (size_inv hk h1)
theorem rmul_L (A B : Option Addr) (n m c d : Nat) (xs ys : List Nat) (w : World) (X Y L : Nat) (hx : val xs = X) (hy : val ys = Y) (hL : (dg (X * Y)).length = L) (h : Rd w A n c xs) (h2 : Rd w B m d ys) (hn : n ≤ 1048576) (hm : m ≤ 1048576) :
    Calls Tryz.prog 57 #[.slice A n c, .slice B m d] w fun e w' => ∃ A1 c1, e = .returned (.slice A1 L c1) ∧ Rd w' A1 L c1 (dg (X * Y)) ∧ Below w.heap.size w w' := by
  subst hL
  exact rmul_at A B n m c d xs ys w X Y _ hx hy rfl h h2 hn hm
theorem add_value (s t : Bool) (xs ys xs' ys' : List Nat) : mkRat (iv s xs * (rden ys' : Int) + iv t xs' * (rden ys : Int)) (rden ys * rden ys') = rv s xs ys + rv t xs' ys' := by
  rw [rv, rv, Rat.mkRat_add_mkRat _ _ (rden_pos _) (rden_pos _)]
theorem iv_times (s : Bool) (X D : Nat) (xs : List Nat) (hx : val xs = X) : iv s (dg (X * D)) = iv s xs * (D : Int) := by
  subst hx
  unfold iv
  rw [val_dg]
  split
  · rw [Int.neg_mul]; rfl
  · rfl
theorem prod_len {X Y j k K : Nat} (hX : X < pw j) (hY : Y < pw k) (hK : j + k ≤ K) : (dg (X * Y)).length ≤ K := Nat.le_trans (dg_le (mul_pw hX hY)) hK
theorem rden_lt {w : World} {B : Option Addr} {m d k : Nat} {ys : List Nat} (h : Rd w B m d ys) (hm : m ≤ k) (hk : 1 ≤ k) : rden ys < pw k := by
  unfold rden
  split
  · exact Nat.lt_of_lt_of_le (by decide : 1 < pw 1) (pw_mono hk)
  · exact rd_lt h hm
set_option maxRecDepth 20000 in
set_option maxHeartbeats 1000000 in
theorem radd_q (s t : Bool) (A B A' B' : Option Addr) (n c m d n' c' m' d' : Nat) (p q r : Rat) (w : World) (hr : p + q = r) (h : Iq w s A n c B m d p) (k : Iq w t A' n' c' B' m' d' q) (hn : n ≤ 4000) (hm : m ≤ 4000) (hn' : n' ≤ 4000) (hm' : m' ≤ 4000) :
    Calls Tryz.prog 73 #[.agg #[.bool s, .slice A n c, .slice B m d], .agg #[.bool t, .slice A' n' c', .slice B' m' d']] w (GQ w r) := by
  obtain ⟨xs, ys, hx, hy, ep⟩ := h
  obtain ⟨xs', ys', kx, ky, eq⟩ := k
  have lx := rd_lt hx hn
  have lx' := rd_lt kx hn'
  have ld := rden_lt hy hm (by omega)
  have ld' := rden_lt ky hm' (by omega)
  have hl1 := prod_len lx ld' (Nat.le_refl _)
  have hl2 := prod_len lx' ld (Nat.le_refl _)
  have hl3 := prod_len ld ld' (Nat.le_refl _)
  obtain ⟨D, hD⟩ : ∃ D, rden ys = D := ⟨_, rfl⟩
  obtain ⟨D', hD'⟩ : ∃ D, rden ys' = D := ⟨_, rfl⟩
  rw [hD] at hl2 hl3 ld
  rw [hD'] at hl1 hl3 ld'
  obtain ⟨X, hX⟩ : ∃ X, val xs = X := ⟨_, rfl⟩
  obtain ⟨X', hX'⟩ : ∃ X, val xs' = X := ⟨_, rfl⟩
  rw [hX] at hl1
  rw [hX'] at hl2
  obtain ⟨L, hL⟩ : ∃ L, (dg D).length = L := ⟨_, rfl⟩
  obtain ⟨L', hL'⟩ : ∃ L, (dg D').length = L := ⟨_, rfl⟩
  obtain ⟨M1, hM1⟩ : ∃ L, (dg (X * D')).length = L := ⟨_, rfl⟩
  obtain ⟨M2, hM2⟩ : ∃ L, (dg (X' * D)).length = L := ⟨_, rfl⟩
  obtain ⟨M3, hM3⟩ : ∃ L, (dg (D * D')).length = L := ⟨_, rfl⟩
  rw [hM1] at hl1
  rw [hM2] at hl2
  rw [hM3] at hl3
  have lL : L ≤ 1048576 := by rw [← hL]; exact Nat.le_trans (dg_le ld) (by omega)
  have lL' : L' ≤ 1048576 := by rw [← hL']; exact Nat.le_trans (dg_le ld') (by omega)
  have n1 : n ≤ 1048576 := by omega
  have n2 : n' ≤ 1048576 := by omega
  have n3 : m ≤ 4194304 := by omega
  have n4 : m' ≤ 4194304 := by omega
  have l1 : M1 ≤ 65536 := by omega
  have l2 : M2 ≤ 65536 := by omega
  have l3 : M3 ≤ 16384 := by omega
  obtain ⟨z, hz⟩ : ∃ z, iv s (dg (X * D')) + iv t (dg (X' * D)) = z := ⟨_, rfl⟩
  have hzv : z = iv s xs * (D' : Int) + iv t xs' * (D : Int) := by rw [← hz, iv_times s X D' xs hX, iv_times t X' D xs' hX']
  have hzl : z.natAbs < pw 8001 := by
    have a1 : (iv s (dg (X * D'))).natAbs = X * D' := by rw [iv_abs, val_dg]
    have a2 : (iv t (dg (X' * D))).natAbs = X' * D := by rw [iv_abs, val_dg]
    have m1 := mul_pw (show X < pw 4000 by rw [← hX]; exact lx) ld'
    have m2 := mul_pw (show X' < pw 4000 by rw [← hX']; exact lx') ld
    have hsum : z.natAbs ≤ X * D' + X' * D := by rw [← hz]; exact Nat.le_trans (Int.natAbs_add_le _ _) (by rw [a1, a2]; exact Nat.le_refl _)
    exact Nat.lt_of_le_of_lt hsum (add_pw m1 m2)
  have HQ := hide (show mkRat z (D * D') = r by rw [hzv, ← hD, ← hD', add_value, ep, eq, hr])
  have HD0 := hide (show D * D' ≠ 0 by rw [← hD, ← hD']; exact Nat.mul_ne_zero (rden_pos _) (rden_pos _))
  have HZ := hide hz
  have HZL := hide hzl
  have HD := hide hD
  have HD' := hide hD'
  have HX := hide hX
  have HX' := hide hX'
  have HL := hide hL
  have HL' := hide hL'
  have HM1 := hide hM1
  have HM2 := hide hM2
  have HM3 := hide hM3
  clear ep eq lx lx' ld ld' hl1 hl2 hl3 hD hD' hX hX' hL hL' hM1 hM2 hM3 hz hzv hzl hr
  have hx_1 := hx.alloc (EQ s A n c B m d)
  have hy_1 := hy.alloc (EQ s A n c B m d)
  have kx_1 := kx.alloc (EQ s A n c B m d)
  have ky_1 := ky.alloc (EQ s A n c B m d)
  have ba_1 : Sq ((w).alloc (EQ s A n c B m d)) (w.heap.size) (.bool s) (.slice A n c) (.slice B m d) := by have h_ := Sq.new (w) (.bool s) (.slice A n c) (.slice B m d); exact h_
  have F1 := (Below.refl w.heap.size w).alloc (Nat.le_refl _) (EQ s A n c B m d)
  have hx_2 := hx_1.alloc (EQ t A' n' c' B' m' d')
  have hy_2 := hy_1.alloc (EQ t A' n' c' B' m' d')
  have kx_2 := kx_1.alloc (EQ t A' n' c' B' m' d')
  have ky_2 := ky_1.alloc (EQ t A' n' c' B' m' d')
  have ba_2 := ba_1.alloc (EQ t A' n' c' B' m' d')
  have bb_2 : Sq (((w).alloc (EQ s A n c B m d)).alloc (EQ t A' n' c' B' m' d')) (w.heap.size + 1) (.bool t) (.slice A' n' c') (.slice B' m' d') := by have h_ := Sq.new ((w).alloc (EQ s A n c B m d)) (.bool t) (.slice A' n' c') (.slice B' m' d'); simp only [World.size_alloc] at h_; exact h_
  have F2 := F1.alloc F1.size (EQ t A' n' c' B' m' d')
  have hx_3 := hx_2.alloc EQ0
  have hy_3 := hy_2.alloc EQ0
  have kx_3 := kx_2.alloc EQ0
  have ky_3 := ky_2.alloc EQ0
  have ba_3 := ba_2.alloc EQ0
  have bb_3 := bb_2.alloc EQ0
  have br_3 : Sq ((((w).alloc (EQ s A n c B m d)).alloc (EQ t A' n' c' B' m' d')).alloc EQ0) (w.heap.size + 2) (.bool false) (.slice none 0 0) (.slice none 0 0) := by have h_ := Sq.new (((w).alloc (EQ s A n c B m d)).alloc (EQ t A' n' c' B' m' d')) (.bool false) (.slice none 0 0) (.slice none 0 0); simp only [World.size_alloc] at h_; exact h_
  have F3 := F2.alloc F2.size EQ0
  go_enter Tryz.func73, Tryz.ntmps73
  go_upto_region 1 with fail
  go_cut [5] (fun sx3 wy => ∃ (wx3 : World) (g : Nat) (A5 : Option Addr) (c5 : Nat) (A6 : Option Addr) (c6 : Nat), wx3 = wy ∧ sx3 = .pointer (some ⟨g, 0, none⟩) ∧ Sb wx3 g (.bool s) (.slice A6 M1 c6) ∧ w.heap.size ≤ g ∧ w.heap.size < g ∧ w.heap.size + 1 < g ∧ w.heap.size + 2 < g ∧ Sq wx3 (w.heap.size) (.bool s) (.slice A n c) (.slice B m d) ∧ Sq wx3 (w.heap.size + 1) (.bool t) (.slice A' n' c') (.slice B' m' d') ∧ Sq wx3 (w.heap.size + 2) (.bool false) (.slice none 0 0) (.slice none 0 0) ∧ Rd wx3 A n c xs ∧ Rd wx3 B m d ys ∧ Rd wx3 A' n' c' xs' ∧ Rd wx3 B' m' d' ys' ∧ Rd wx3 A6 M1 c6 (dg (X * D')) ∧ Below w.heap.size w wx3)
  case first =>
    have hx_4 := hx_3.drew
    have hy_4 := hy_3.drew
    have kx_4 := kx_3.drew
    have ky_4 := ky_3.drew
    have ba_4 := ba_3.drew
    have bb_4 := bb_3.drew
    have br_4 := br_3.drew
    have F4 := F3.drew
    have hx_z0 := (hx_3.alloc E0).drew
    have hy_z0 := (hy_3.alloc E0).drew
    have kx_z0 := (kx_3.alloc E0).drew
    have ky_z0 := (ky_3.alloc E0).drew
    have ba_z0 := (ba_3.alloc E0).drew
    have bb_z0 := (bb_3.alloc E0).drew
    have br_z0 := (br_3.alloc E0).drew
    have lz_ba : w.heap.size < w.heap.size + 3 := by omega
    have lz_bb : w.heap.size + 1 < w.heap.size + 3 := by omega
    have lz_br : w.heap.size + 2 < w.heap.size + 3 := by omega
    have gl : w.heap.size ≤ w.heap.size + 3 := by omega
    have F_z0 := (F3.alloc F3.size E0).drew
    have zb_0 : Sb (((((w).alloc (EQ s A n c B m d)).alloc (EQ t A' n' c' B' m' d')).alloc EQ0).alloc E0).drew (w.heap.size + 3) (.bool false) (.slice none 0 0) := by have h_ := Sb.new ((((w).alloc (EQ s A n c B m d)).alloc (EQ t A' n' c' B' m' d')).alloc EQ0) (.bool false) (.slice none 0 0); simp only [World.size_alloc] at h_; exact h_.drew
    go_region_held3 (fun w' => w'.cell? ⟨w.heap.size, 0, none⟩ = some (.bool s) ∧ w'.cell? ⟨w.heap.size, 1, none⟩ = some (.slice A n c) ∧ w'.cell? ⟨w.heap.size, 2, none⟩ = some (.slice B m d) ∧ w'.cell? ⟨w.heap.size + 1, 0, none⟩ = some (.bool t) ∧ w'.cell? ⟨w.heap.size + 1, 1, none⟩ = some (.slice A' n' c') ∧ w'.cell? ⟨w.heap.size + 1, 2, none⟩ = some (.slice B' m' d'))
      (first
        | with_reducible exact ⟨(ba_6.alloc (EI s A6 M1 c6)).cell0, (ba_6.alloc (EI s A6 M1 c6)).cell1, (ba_6.alloc (EI s A6 M1 c6)).cell2, (bb_6.alloc (EI s A6 M1 c6)).cell0, (bb_6.alloc (EI s A6 M1 c6)).cell1, (bb_6.alloc (EI s A6 M1 c6)).cell2⟩
        | with_reducible exact ⟨(ba_6.pastI (u0 := .bool s) (u1 := .slice A6 M1 c6) (Nat.ne_of_lt lz_ba)).cell0, (ba_6.pastI (u0 := .bool s) (u1 := .slice A6 M1 c6) (Nat.ne_of_lt lz_ba)).cell1, (ba_6.pastI (u0 := .bool s) (u1 := .slice A6 M1 c6) (Nat.ne_of_lt lz_ba)).cell2, (bb_6.pastI (u0 := .bool s) (u1 := .slice A6 M1 c6) (Nat.ne_of_lt lz_bb)).cell0, (bb_6.pastI (u0 := .bool s) (u1 := .slice A6 M1 c6) (Nat.ne_of_lt lz_bb)).cell1, (bb_6.pastI (u0 := .bool s) (u1 := .slice A6 M1 c6) (Nat.ne_of_lt lz_bb)).cell2⟩
        | with_reducible exact ⟨(ba_6.alloc E0).cell0, (ba_6.alloc E0).cell1, (ba_6.alloc E0).cell2, (bb_6.alloc E0).cell0, (bb_6.alloc E0).cell1, (bb_6.alloc E0).cell2⟩
        | with_reducible exact ⟨ba_6.cell0, ba_6.cell1, ba_6.cell2, bb_6.cell0, bb_6.cell1, bb_6.cell2⟩
        | with_reducible exact ⟨ba_5.alloc E0 |>.cell0, ba_5.alloc E0 |>.cell1, ba_5.alloc E0 |>.cell2, bb_5.alloc E0 |>.cell0, bb_5.alloc E0 |>.cell1, bb_5.alloc E0 |>.cell2⟩
        | with_reducible exact ⟨(ba_5.alloc E0).cell0, (ba_5.alloc E0).cell1, (ba_5.alloc E0).cell2, (bb_5.alloc E0).cell0, (bb_5.alloc E0).cell1, (bb_5.alloc E0).cell2⟩
        | with_reducible exact ⟨ba_5.cell0, ba_5.cell1, ba_5.cell2, bb_5.cell0, bb_5.cell1, bb_5.cell2⟩
        | with_reducible exact ⟨ba_z0.cell0, ba_z0.cell1, ba_z0.cell2, bb_z0.cell0, bb_z0.cell1, bb_z0.cell2⟩
        | with_reducible exact ⟨ba_4.cell0, ba_4.cell1, ba_4.cell2, bb_4.cell0, bb_4.cell1, bb_4.cell2⟩
        | fail)
      (first
        | (go_at_call 62; (with_reducible refine (one_at _ _ _ _ _ _ L' HD'.out HL'.out ky_4 n4).mono ?_); rintro e w5 ⟨A5, c5, rfl, o1, b5⟩; have hx_5 := hx_4.below b5; have hy_5 := hy_4.below b5; have kx_5 := kx_4.below b5; have ky_5 := ky_4.below b5; have ba_5 := ba_4.below b5 ba_4.lt; have bb_5 := bb_4.below b5 bb_4.lt; have br_5 := br_4.below b5 br_4.lt; have F5 := below_then F4 (Nat.le_refl _) b5)
        | (go_at_call 62; (with_reducible refine (one_at _ _ _ _ _ _ L' HD'.out HL'.out ky_z0 n4).mono ?_); rintro e w5 ⟨A5, c5, rfl, o1, b5⟩; have hx_5 := hx_z0.below b5; have hy_5 := hy_z0.below b5; have kx_5 := kx_z0.below b5; have ky_5 := ky_z0.below b5; have ba_5 := ba_z0.below b5 ba_z0.lt; have bb_5 := bb_z0.below b5 bb_z0.lt; have br_5 := br_z0.below b5 br_z0.lt; have F5 := below_then F_z0 (Nat.le_refl _) b5; have zb_5 := zb_0.below b5 zb_0.lt)
        | (go_at_call 57; (with_reducible refine (rmul_L _ _ _ _ _ _ _ _ _ X D' M1 HX.out (val_dg _) HM1.out hx_5 o1 n1 lL').mono ?_); rintro e w6 ⟨A6, c6, rfl, p1, b6⟩; have hx_6 := hx_5.below b6; have hy_6 := hy_5.below b6; have kx_6 := kx_5.below b6; have ky_6 := ky_5.below b6; have o1_6 := o1.below b6; have ba_6 := ba_5.below b6 ba_5.lt; have bb_6 := bb_5.below b6 bb_5.lt; have br_6 := br_5.below b6 br_5.lt; have F6 := below_then F5 (Nat.le_refl _) b6; have zb_6 := zb_5.below b6 zb_5.lt; have zk6_0 := zb_6.cell0; have zk6_1 := zb_6.cell1; have zf6_0 := zb_6.frozen 0; have zf6_1 := zb_6.frozen 1)
        | (go_at_call 57; (with_reducible refine (rmul_L _ _ _ _ _ _ _ _ _ X D' M1 HX.out (val_dg _) HM1.out hx_5 o1 n1 lL').mono ?_); rintro e w6 ⟨A6, c6, rfl, p1, b6⟩; have hx_6 := hx_5.below b6; have hy_6 := hy_5.below b6; have kx_6 := kx_5.below b6; have ky_6 := ky_5.below b6; have o1_6 := o1.below b6; have ba_6 := ba_5.below b6 ba_5.lt; have bb_6 := bb_5.below b6 bb_5.lt; have br_6 := br_5.below b6 br_5.lt; have F6 := below_then F5 (Nat.le_refl _) b6)
        | (have hx_z6 := hx_5.alloc E0; have hy_z6 := hy_5.alloc E0; have kx_z6 := kx_5.alloc E0; have ky_z6 := ky_5.alloc E0; have o1_z6 := o1.alloc E0; have ba_z6 := ba_5.alloc E0; have bb_z6 := bb_5.alloc E0; have br_z6 := br_5.alloc E0; have lz_ba := ba_5.lt; have lz_bb := bb_5.lt; have lz_br := br_5.lt; have gl := F5.size; have F_z6 := F5.alloc F5.size E0; have zb_5 := Sb.new (w5) (.bool false) (.slice none 0 0); go_at_call 57; (with_reducible refine (rmul_L _ _ _ _ _ _ _ _ _ X D' M1 HX.out (val_dg _) HM1.out hx_z6 o1_z6 n1 lL').mono ?_); rintro e w6 ⟨A6, c6, rfl, p1, b6⟩; have hx_6 := hx_z6.below b6; have hy_6 := hy_z6.below b6; have kx_6 := kx_z6.below b6; have ky_6 := ky_z6.below b6; have o1_6 := o1_z6.below b6; have ba_6 := ba_z6.below b6 ba_z6.lt; have bb_6 := bb_z6.below b6 bb_z6.lt; have br_6 := br_z6.below b6 br_z6.lt; have F6 := below_then F_z6 (Nat.le_refl _) b6; have zb_6 := zb_5.below b6 zb_5.lt; have zk6_0 := zb_6.cell0; have zk6_1 := zb_6.cell1; have zf6_0 := zb_6.frozen 0; have zf6_1 := zb_6.frozen 1)
        | fail)
    all_goals (go_wp2_with fail; go_meet; first | exact ⟨_, _, A5, c5, A6, c6, rfl, rfl, zb_6.stor, gl, lz_ba, lz_bb, lz_br, ba_6.pastI (Nat.ne_of_lt lz_ba), bb_6.pastI (Nat.ne_of_lt lz_bb), br_6.pastI (Nat.ne_of_lt lz_br), hx_6.storI zb_6 (.bool s) (.slice A6 M1 c6), hy_6.storI zb_6 (.bool s) (.slice A6 M1 c6), kx_6.storI zb_6 (.bool s) (.slice A6 M1 c6), ky_6.storI zb_6 (.bool s) (.slice A6 M1 c6), p1.storI zb_6 (.bool s) (.slice A6 M1 c6), below_stor F6 gl⟩ | exact ⟨_, _, A5, c5, A6, c6, rfl, rfl, Sb.new w6 (.bool s) (.slice A6 M1 c6), F6.size, ba_6.lt, bb_6.lt, br_6.lt, ba_6.alloc (EI s A6 M1 c6), bb_6.alloc (EI s A6 M1 c6), br_6.alloc (EI s A6 M1 c6), hx_6.alloc (EI s A6 M1 c6), hy_6.alloc (EI s A6 M1 c6), kx_6.alloc (EI s A6 M1 c6), ky_6.alloc (EI s A6 M1 c6), p1.alloc (EI s A6 M1 c6), F6.alloc F6.size _⟩ | fail)
  case rest =>
    obtain ⟨wx3, g7, A5, c5, A6, c6, rfl, rfl, bu_7, gl_7, lt_bu_ba, lt_bu_bb, lt_bu_br, ba_7, bb_7, br_7, hx_7, hy_7, kx_7, ky_7, p1_7, F7⟩ := hcut
    go_upto_region 2 with fail
    go_cut [6] (fun sx7 wy => ∃ (wx7 : World) (g : Nat) (A9 : Option Addr) (c9 : Nat) (A10 : Option Addr) (c10 : Nat), wx7 = wy ∧ sx7 = .pointer (some ⟨g, 0, none⟩) ∧ Sb wx7 g (.bool t) (.slice A10 M2 c10) ∧ w.heap.size ≤ g ∧ w.heap.size < g ∧ w.heap.size + 1 < g ∧ w.heap.size + 2 < g ∧ g7 < g ∧ Sq wx7 (w.heap.size) (.bool s) (.slice A n c) (.slice B m d) ∧ Sq wx7 (w.heap.size + 1) (.bool t) (.slice A' n' c') (.slice B' m' d') ∧ Sq wx7 (w.heap.size + 2) (.bool false) (.slice none 0 0) (.slice none 0 0) ∧ Sb wx7 (g7) (.bool s) (.slice A6 M1 c6) ∧ Rd wx7 A n c xs ∧ Rd wx7 B m d ys ∧ Rd wx7 A' n' c' xs' ∧ Rd wx7 B' m' d' ys' ∧ Rd wx7 A6 M1 c6 (dg (X * D')) ∧ Rd wx7 A10 M2 c10 (dg (X' * D)) ∧ Below w.heap.size w wx7)
    case first =>
      have hx_8 := hx_7.drew
      have hy_8 := hy_7.drew
      have kx_8 := kx_7.drew
      have ky_8 := ky_7.drew
      have p1_8 := p1_7.drew
      have ba_8 := ba_7.drew
      have bb_8 := bb_7.drew
      have br_8 := br_7.drew
      have bu_8 := bu_7.drew
      have F8 := F7.drew
      have hx_z0 := (hx_7.alloc E0).drew
      have hy_z0 := (hy_7.alloc E0).drew
      have kx_z0 := (kx_7.alloc E0).drew
      have ky_z0 := (ky_7.alloc E0).drew
      have p1_z0 := (p1_7.alloc E0).drew
      have ba_z0 := (ba_7.alloc E0).drew
      have bb_z0 := (bb_7.alloc E0).drew
      have br_z0 := (br_7.alloc E0).drew
      have bu_z0 := (bu_7.alloc E0).drew
      have lz_ba := ba_7.lt
      have lz_bb := bb_7.lt
      have lz_br := br_7.lt
      have lz_bu := bu_7.lt
      have gl := F7.size
      have F_z0 := (F7.alloc F7.size E0).drew
      have zb_0 : Sb ((wx3).alloc E0).drew (wx3.heap.size) (.bool false) (.slice none 0 0) := by have h_ := Sb.new (wx3) (.bool false) (.slice none 0 0); exact h_.drew
      go_region_held3 (fun w' => w'.cell? ⟨w.heap.size, 0, none⟩ = some (.bool s) ∧ w'.cell? ⟨w.heap.size, 1, none⟩ = some (.slice A n c) ∧ w'.cell? ⟨w.heap.size, 2, none⟩ = some (.slice B m d) ∧ w'.cell? ⟨w.heap.size + 1, 0, none⟩ = some (.bool t) ∧ w'.cell? ⟨w.heap.size + 1, 1, none⟩ = some (.slice A' n' c') ∧ w'.cell? ⟨w.heap.size + 1, 2, none⟩ = some (.slice B' m' d'))
        (first
          | with_reducible exact ⟨(ba_10.alloc (EI t A10 M2 c10)).cell0, (ba_10.alloc (EI t A10 M2 c10)).cell1, (ba_10.alloc (EI t A10 M2 c10)).cell2, (bb_10.alloc (EI t A10 M2 c10)).cell0, (bb_10.alloc (EI t A10 M2 c10)).cell1, (bb_10.alloc (EI t A10 M2 c10)).cell2⟩
          | with_reducible exact ⟨(ba_10.pastI (u0 := .bool t) (u1 := .slice A10 M2 c10) (Nat.ne_of_lt lz_ba)).cell0, (ba_10.pastI (u0 := .bool t) (u1 := .slice A10 M2 c10) (Nat.ne_of_lt lz_ba)).cell1, (ba_10.pastI (u0 := .bool t) (u1 := .slice A10 M2 c10) (Nat.ne_of_lt lz_ba)).cell2, (bb_10.pastI (u0 := .bool t) (u1 := .slice A10 M2 c10) (Nat.ne_of_lt lz_bb)).cell0, (bb_10.pastI (u0 := .bool t) (u1 := .slice A10 M2 c10) (Nat.ne_of_lt lz_bb)).cell1, (bb_10.pastI (u0 := .bool t) (u1 := .slice A10 M2 c10) (Nat.ne_of_lt lz_bb)).cell2⟩
          | with_reducible exact ⟨(ba_10.alloc E0).cell0, (ba_10.alloc E0).cell1, (ba_10.alloc E0).cell2, (bb_10.alloc E0).cell0, (bb_10.alloc E0).cell1, (bb_10.alloc E0).cell2⟩
          | with_reducible exact ⟨ba_10.cell0, ba_10.cell1, ba_10.cell2, bb_10.cell0, bb_10.cell1, bb_10.cell2⟩
          | with_reducible exact ⟨ba_9.alloc E0 |>.cell0, ba_9.alloc E0 |>.cell1, ba_9.alloc E0 |>.cell2, bb_9.alloc E0 |>.cell0, bb_9.alloc E0 |>.cell1, bb_9.alloc E0 |>.cell2⟩
          | with_reducible exact ⟨(ba_9.alloc E0).cell0, (ba_9.alloc E0).cell1, (ba_9.alloc E0).cell2, (bb_9.alloc E0).cell0, (bb_9.alloc E0).cell1, (bb_9.alloc E0).cell2⟩
          | with_reducible exact ⟨ba_9.cell0, ba_9.cell1, ba_9.cell2, bb_9.cell0, bb_9.cell1, bb_9.cell2⟩
          | with_reducible exact ⟨ba_z0.cell0, ba_z0.cell1, ba_z0.cell2, bb_z0.cell0, bb_z0.cell1, bb_z0.cell2⟩
          | with_reducible exact ⟨ba_8.cell0, ba_8.cell1, ba_8.cell2, bb_8.cell0, bb_8.cell1, bb_8.cell2⟩
          | fail)
        (first
          | (go_at_call 62; (with_reducible refine (one_at _ _ _ _ _ _ L HD.out HL.out hy_8 n3).mono ?_); rintro e w9 ⟨A9, c9, rfl, o2, b9⟩; have hx_9 := hx_8.below b9; have hy_9 := hy_8.below b9; have kx_9 := kx_8.below b9; have ky_9 := ky_8.below b9; have p1_9 := p1_8.below b9; have ba_9 := ba_8.below b9 ba_8.lt; have bb_9 := bb_8.below b9 bb_8.lt; have br_9 := br_8.below b9 br_8.lt; have bu_9 := bu_8.below b9 bu_8.lt; have F9 := below_then F8 (Nat.le_refl _) b9)
          | (go_at_call 62; (with_reducible refine (one_at _ _ _ _ _ _ L HD.out HL.out hy_z0 n3).mono ?_); rintro e w9 ⟨A9, c9, rfl, o2, b9⟩; have hx_9 := hx_z0.below b9; have hy_9 := hy_z0.below b9; have kx_9 := kx_z0.below b9; have ky_9 := ky_z0.below b9; have p1_9 := p1_z0.below b9; have ba_9 := ba_z0.below b9 ba_z0.lt; have bb_9 := bb_z0.below b9 bb_z0.lt; have br_9 := br_z0.below b9 br_z0.lt; have bu_9 := bu_z0.below b9 bu_z0.lt; have F9 := below_then F_z0 (Nat.le_refl _) b9; have zb_9 := zb_0.below b9 zb_0.lt)
          | (go_at_call 57; (with_reducible refine (rmul_L _ _ _ _ _ _ _ _ _ X' D M2 HX'.out (val_dg _) HM2.out kx_9 o2 n2 lL).mono ?_); rintro e w10 ⟨A10, c10, rfl, p2, b10⟩; have hx_10 := hx_9.below b10; have hy_10 := hy_9.below b10; have kx_10 := kx_9.below b10; have ky_10 := ky_9.below b10; have p1_10 := p1_9.below b10; have o2_10 := o2.below b10; have ba_10 := ba_9.below b10 ba_9.lt; have bb_10 := bb_9.below b10 bb_9.lt; have br_10 := br_9.below b10 br_9.lt; have bu_10 := bu_9.below b10 bu_9.lt; have F10 := below_then F9 (Nat.le_refl _) b10; have zb_10 := zb_9.below b10 zb_9.lt; have zk10_0 := zb_10.cell0; have zk10_1 := zb_10.cell1; have zf10_0 := zb_10.frozen 0; have zf10_1 := zb_10.frozen 1)
          | (go_at_call 57; (with_reducible refine (rmul_L _ _ _ _ _ _ _ _ _ X' D M2 HX'.out (val_dg _) HM2.out kx_9 o2 n2 lL).mono ?_); rintro e w10 ⟨A10, c10, rfl, p2, b10⟩; have hx_10 := hx_9.below b10; have hy_10 := hy_9.below b10; have kx_10 := kx_9.below b10; have ky_10 := ky_9.below b10; have p1_10 := p1_9.below b10; have o2_10 := o2.below b10; have ba_10 := ba_9.below b10 ba_9.lt; have bb_10 := bb_9.below b10 bb_9.lt; have br_10 := br_9.below b10 br_9.lt; have bu_10 := bu_9.below b10 bu_9.lt; have F10 := below_then F9 (Nat.le_refl _) b10)
          | (have hx_z10 := hx_9.alloc E0; have hy_z10 := hy_9.alloc E0; have kx_z10 := kx_9.alloc E0; have ky_z10 := ky_9.alloc E0; have p1_z10 := p1_9.alloc E0; have o2_z10 := o2.alloc E0; have ba_z10 := ba_9.alloc E0; have bb_z10 := bb_9.alloc E0; have br_z10 := br_9.alloc E0; have bu_z10 := bu_9.alloc E0; have lz_ba := ba_9.lt; have lz_bb := bb_9.lt; have lz_br := br_9.lt; have lz_bu := bu_9.lt; have gl := F9.size; have F_z10 := F9.alloc F9.size E0; have zb_9 := Sb.new (w9) (.bool false) (.slice none 0 0); go_at_call 57; (with_reducible refine (rmul_L _ _ _ _ _ _ _ _ _ X' D M2 HX'.out (val_dg _) HM2.out kx_z10 o2_z10 n2 lL).mono ?_); rintro e w10 ⟨A10, c10, rfl, p2, b10⟩; have hx_10 := hx_z10.below b10; have hy_10 := hy_z10.below b10; have kx_10 := kx_z10.below b10; have ky_10 := ky_z10.below b10; have p1_10 := p1_z10.below b10; have o2_10 := o2_z10.below b10; have ba_10 := ba_z10.below b10 ba_z10.lt; have bb_10 := bb_z10.below b10 bb_z10.lt; have br_10 := br_z10.below b10 br_z10.lt; have bu_10 := bu_z10.below b10 bu_z10.lt; have F10 := below_then F_z10 (Nat.le_refl _) b10; have zb_10 := zb_9.below b10 zb_9.lt; have zk10_0 := zb_10.cell0; have zk10_1 := zb_10.cell1; have zf10_0 := zb_10.frozen 0; have zf10_1 := zb_10.frozen 1)
          | fail)
      all_goals (go_wp2_with fail; go_meet; first | exact ⟨_, _, A9, c9, A10, c10, rfl, rfl, zb_10.stor, gl, lz_ba, lz_bb, lz_br, lz_bu, ba_10.pastI (Nat.ne_of_lt lz_ba), bb_10.pastI (Nat.ne_of_lt lz_bb), br_10.pastI (Nat.ne_of_lt lz_br), bu_10.past (Nat.ne_of_lt lz_bu), hx_10.storI zb_10 (.bool t) (.slice A10 M2 c10), hy_10.storI zb_10 (.bool t) (.slice A10 M2 c10), kx_10.storI zb_10 (.bool t) (.slice A10 M2 c10), ky_10.storI zb_10 (.bool t) (.slice A10 M2 c10), p1_10.storI zb_10 (.bool t) (.slice A10 M2 c10), p2.storI zb_10 (.bool t) (.slice A10 M2 c10), below_stor F10 gl⟩ | exact ⟨_, _, A9, c9, A10, c10, rfl, rfl, Sb.new w10 (.bool t) (.slice A10 M2 c10), F10.size, ba_10.lt, bb_10.lt, br_10.lt, bu_10.lt, ba_10.alloc (EI t A10 M2 c10), bb_10.alloc (EI t A10 M2 c10), br_10.alloc (EI t A10 M2 c10), bu_10.alloc (EI t A10 M2 c10), hx_10.alloc (EI t A10 M2 c10), hy_10.alloc (EI t A10 M2 c10), kx_10.alloc (EI t A10 M2 c10), ky_10.alloc (EI t A10 M2 c10), p1_10.alloc (EI t A10 M2 c10), p2.alloc (EI t A10 M2 c10), F10.alloc F10.size _⟩ | fail)
    case rest =>
      obtain ⟨wx7, g11, A9, c9, A10, c10, rfl, rfl, bv_11, gl_11, lt_bv_ba, lt_bv_bb, lt_bv_br, lt_bv_bu, ba_11, bb_11, br_11, bu_11, hx_11, hy_11, kx_11, ky_11, p1_11, p2_11, F11⟩ := hcut
      have ba_u11 := ba_11.cell0
      have ba_v11 := ba_11.cell1
      have ba_w11 := ba_11.cell2
      have bb_u11 := bb_11.cell0
      have bb_v11 := bb_11.cell1
      have bb_w11 := bb_11.cell2
      have br_u11 := br_11.cell0
      have br_v11 := br_11.cell1
      have br_w11 := br_11.cell2
      have bu_u11 := bu_11.cell0
      have bu_v11 := bu_11.cell1
      have bv_u11 := bv_11.cell0
      have bv_v11 := bv_11.cell1
      have i1 : Iz _ s _ _ _ (iv s (dg (X * D'))) := ⟨_, p1_11, rfl⟩
      have i2 : Iz _ t _ _ _ (iv t (dg (X' * D))) := ⟨_, p2_11, rfl⟩
      go_wp2_with fail
      refine (radd_int _ _ _ _ _ _ _ _ _ _ z _ HZ.out i1 i2 l1 l2).mono ?_
      rintro e w12 ⟨s12, A12, n12, c12, rfl, zz, b12⟩
      have hx_12 := hx_11.below b12
      have hy_12 := hy_11.below b12
      have kx_12 := kx_11.below b12
      have ky_12 := ky_11.below b12
      have ba_12 := ba_11.below b12 ba_11.lt
      have bb_12 := bb_11.below b12 bb_11.lt
      have br_12 := br_11.below b12 br_11.lt
      have bu_12 := bu_11.below b12 bu_11.lt
      have bv_12 := bv_11.below b12 bv_11.lt
      have F12 := below_then F11 (Nat.le_refl _) b12
      have ba_u12 := ba_12.cell0
      have ba_v12 := ba_12.cell1
      have ba_w12 := ba_12.cell2
      have bb_u12 := bb_12.cell0
      have bb_v12 := bb_12.cell1
      have bb_w12 := bb_12.cell2
      have br_u12 := br_12.cell0
      have br_v12 := br_12.cell1
      have br_w12 := br_12.cell2
      have bu_u12 := bu_12.cell0
      have bu_v12 := bu_12.cell1
      have bv_u12 := bv_12.cell0
      have bv_v12 := bv_12.cell1
      have lt_bs_ba := ba_12.lt
      have lt_bs_bb := bb_12.lt
      have lt_bs_br := br_12.lt
      have lt_bs_bu := bu_12.lt
      have lt_bs_bv := bv_12.lt
      have hx_13 := hx_12.alloc (EI s12 A12 n12 c12)
      have hy_13 := hy_12.alloc (EI s12 A12 n12 c12)
      have kx_13 := kx_12.alloc (EI s12 A12 n12 c12)
      have ky_13 := ky_12.alloc (EI s12 A12 n12 c12)
      have zz_13 := zz.alloc (EI s12 A12 n12 c12)
      have ba_13 := ba_12.alloc (EI s12 A12 n12 c12)
      have bb_13 := bb_12.alloc (EI s12 A12 n12 c12)
      have br_13 := br_12.alloc (EI s12 A12 n12 c12)
      have bu_13 := bu_12.alloc (EI s12 A12 n12 c12)
      have bv_13 := bv_12.alloc (EI s12 A12 n12 c12)
      have bs_13 : Sb ((w12).alloc (EI s12 A12 n12 c12)) (w12.heap.size) (.bool s12) (.slice A12 n12 c12) := by have h_ := Sb.new (w12) (.bool s12) (.slice A12 n12 c12); exact h_
      have F13 := F12.alloc F12.size (EI s12 A12 n12 c12)
      have hzz := zz_13
      have lz : n12 ≤ 16384 := Nat.le_trans (hzz.len HZL.out) (by omega)
      have hQ : mkRat (iv s12 (dg z.natAbs)) (val (dg (D * D'))) = r := by rw [val_dg, show iv s12 (dg z.natAbs) = z from by rw [iv, val_dg, hzz.2]; split <;> rename_i h0 <;> rw [decide_eq_true_eq] at h0 <;> omega]; exact HQ.out
      have hQ0 : val (dg (D * D')) ≠ 0 := by rw [val_dg]; exact HD0.out
      have HQQ := hide hQ
      have HQ0 := hide hQ0
      clear hQ hQ0 hzz
      go_wp2_with fail
      have hx_14 := hx_13.drew
      have hy_14 := hy_13.drew
      have kx_14 := kx_13.drew
      have ky_14 := ky_13.drew
      have zz_14 := zz_13.drew
      have ba_14 := ba_13.drew
      have bb_14 := bb_13.drew
      have br_14 := br_13.drew
      have bu_14 := bu_13.drew
      have bv_14 := bv_13.drew
      have bs_14 := bs_13.drew
      have F14 := F13.drew
      go_region_held3 (fun w' => w'.cell? ⟨w.heap.size, 0, none⟩ = some (.bool s) ∧ w'.cell? ⟨w.heap.size, 1, none⟩ = some (.slice A n c) ∧ w'.cell? ⟨w.heap.size, 2, none⟩ = some (.slice B m d) ∧ w'.cell? ⟨w.heap.size + 1, 0, none⟩ = some (.bool t) ∧ w'.cell? ⟨w.heap.size + 1, 1, none⟩ = some (.slice A' n' c') ∧ w'.cell? ⟨w.heap.size + 1, 2, none⟩ = some (.slice B' m' d') ∧ w'.cell? ⟨w12.heap.size, 0, none⟩ = some (.bool s12) ∧ w'.cell? ⟨w12.heap.size, 1, none⟩ = some (.slice A12 n12 c12))
        (first
          | with_reducible exact ⟨ba_p.cell0, ba_p.cell1, ba_p.cell2, bb_p.cell0, bb_p.cell1, bb_p.cell2, bs_p.cell0, bs_p.cell1⟩
          | with_reducible exact ⟨ba_18.cell0, ba_18.cell1, ba_18.cell2, bb_18.cell0, bb_18.cell1, bb_18.cell2, bs_18.cell0, bs_18.cell1⟩
          | with_reducible exact ⟨ba_17.cell0, ba_17.cell1, ba_17.cell2, bb_17.cell0, bb_17.cell1, bb_17.cell2, bs_17.cell0, bs_17.cell1⟩
          | with_reducible exact ⟨ba_16.cell0, ba_16.cell1, ba_16.cell2, bb_16.cell0, bb_16.cell1, bb_16.cell2, bs_16.cell0, bs_16.cell1⟩
          | with_reducible exact ⟨ba_15.cell0, ba_15.cell1, ba_15.cell2, bb_15.cell0, bb_15.cell1, bb_15.cell2, bs_15.cell0, bs_15.cell1⟩
          | with_reducible exact ⟨ba_14.cell0, ba_14.cell1, ba_14.cell2, bb_14.cell0, bb_14.cell1, bb_14.cell2, bs_14.cell0, bs_14.cell1⟩
          | fail)
        (first
          | (go_at_call 62; (with_reducible refine (one_at _ _ _ _ _ _ L HD.out HL.out hy_14 n3).mono ?_); rintro e w15 ⟨A15, c15, rfl, o3, b15⟩; have hx_15 := hx_14.below b15; have hy_15 := hy_14.below b15; have kx_15 := kx_14.below b15; have ky_15 := ky_14.below b15; have zz_15 := zz_14.below b15; have ba_15 := ba_14.below b15 ba_14.lt; have bb_15 := bb_14.below b15 bb_14.lt; have br_15 := br_14.below b15 br_14.lt; have bu_15 := bu_14.below b15 bu_14.lt; have bv_15 := bv_14.below b15 bv_14.lt; have bs_15 := bs_14.below b15 bs_14.lt; have F15 := below_then F14 (Nat.le_refl _) b15)
          | (go_at_call 62; (with_reducible refine (one_at _ _ _ _ _ _ L' HD'.out HL'.out ky_15 n4).mono ?_); rintro e w16 ⟨A16, c16, rfl, o4, b16⟩; have hx_16 := hx_15.below b16; have hy_16 := hy_15.below b16; have kx_16 := kx_15.below b16; have ky_16 := ky_15.below b16; have zz_16 := zz_15.below b16; have o3_16 := o3.below b16; have ba_16 := ba_15.below b16 ba_15.lt; have bb_16 := bb_15.below b16 bb_15.lt; have br_16 := br_15.below b16 br_15.lt; have bu_16 := bu_15.below b16 bu_15.lt; have bv_16 := bv_15.below b16 bv_15.lt; have bs_16 := bs_15.below b16 bs_15.lt; have F16 := below_then F15 (Nat.le_refl _) b16)
          | (go_at_call 57; (with_reducible refine (rmul_L _ _ _ _ _ _ _ _ _ D D' M3 (val_dg _) (val_dg _) HM3.out o3_16 o4 lL lL').mono ?_); rintro e w17 ⟨A17, c17, rfl, p3, b17⟩; have hx_17 := hx_16.below b17; have hy_17 := hy_16.below b17; have kx_17 := kx_16.below b17; have ky_17 := ky_16.below b17; have zz_17 := zz_16.below b17; have o3_17 := o3_16.below b17; have o4_17 := o4.below b17; have ba_17 := ba_16.below b17 ba_16.lt; have bb_17 := bb_16.below b17 bb_16.lt; have br_17 := br_16.below b17 br_16.lt; have bu_17 := bu_16.below b17 bu_16.lt; have bv_17 := bv_16.below b17 bv_16.lt; have bs_17 := bs_16.below b17 bs_16.lt; have F17 := below_then F16 (Nat.le_refl _) b17)
          | (go_at_call 61; (with_reducible refine (quo_calls _ _ _ _ _ _ _ _ _ _ _ HQQ.out HQ0.out zz_17.rn p3 lz l3).mono ?_); rintro e w18 ⟨s18, A18, n18, c18, B18, m18, d18, rfl, kk, b18⟩; have hx_18 := hx_17.below b18; have hy_18 := hy_17.below b18; have kx_18 := kx_17.below b18; have ky_18 := ky_17.below b18; have zz_18 := zz_17.below b18; have o3_18 := o3_17.below b18; have o4_18 := o4_17.below b18; have p3_18 := p3.below b18; have ba_18 := ba_17.below b18 ba_17.lt; have bb_18 := bb_17.below b18 bb_17.lt; have br_18 := br_17.below b18 br_17.lt; have bu_18 := bu_17.below b18 bu_17.lt; have bv_18 := bv_17.below b18 bv_17.lt; have bs_18 := bs_17.below b18 bs_17.lt; have F18 := below_then F17 (Nat.le_refl _) b18; have br_g0 := br_18.cell0; have br_h0 := br_18.frozen 0; have br_g1 := br_18.cell1; have br_h1 := br_18.frozen 1; have br_g2 := br_18.cell2; have br_h2 := br_18.frozen 2; have ba_p := ba_18.past (g' := w.heap.size + 2) (u0 := .bool s18) (u1 := .slice A18 n18 c18) (u2 := .slice B18 m18 d18) (by omega); have bb_p := bb_18.past (g' := w.heap.size + 2) (u0 := .bool s18) (u1 := .slice A18 n18 c18) (u2 := .slice B18 m18 d18) (by omega); have bs_p := bs_18.pastQ (g' := w.heap.size + 2) (u0 := .bool s18) (u1 := .slice A18 n18 c18) (u2 := .slice B18 m18 d18) (by omega))
          | fail)
      go_wp2_with fail
      refine bodyPost_ret (v := .agg #[.bool s18, .slice A18 n18 c18, .slice B18 m18 d18]) (by simp [results, Tryz.results73, go_sem, (br_18.set0 (.bool s18)).cell0, ((br_18.set0 (.bool s18)).set1 (.slice A18 n18 c18)).cell1, (((br_18.set0 (.bool s18)).set1 (.slice A18 n18 c18)).set2 (.slice B18 m18 d18)).cell2]) rfl (gq_end F18 (by omega) br_18 kk)
end Go.Proofs.YtnddhohjfjlaiaaGreatDoor

/-
  The specification's Sub, Mul, Div.
-/
namespace Go.Proofs.YtnddhohjfjlaiaaGreatDoor
open Go.RowKit
set_option linter.unusedVariables false
set_option linter.unusedSimpArgs false

set_option maxHeartbeats 1000000 in
theorem rsub_q (s t : Bool) (A B A' B' : Option Addr) (n c m d n' c' m' d' : Nat) (p q r : Rat) (w : World) (hr : p - q = r) (h : Iq w s A n c B m d p) (k : Iq w t A' n' c' B' m' d' q) (hn : n ≤ 4000) (hm : m ≤ 4000) (hn' : n' ≤ 4000) (hm' : m' ≤ 4000) :
    Calls Tryz.prog 47 #[.agg #[.bool s, .slice A n c, .slice B m d], .agg #[.bool t, .slice A' n' c', .slice B' m' d']] w (GQ w r) := by
  have hs := size_neg (k.size hn' hm' (by omega))
  have HR := hide (show p + -q = r by rw [← Rat.sub_eq_add_neg]; exact hr)
  have n3 : n' ≤ 16384 := by omega
  have n4 : m' ≤ 16384 := by omega
  clear hr
  have h_1 := h.alloc (EQ s A n c B m d)
  have k_1 := k.alloc (EQ s A n c B m d)
  have ba_1 : Sq ((w).alloc (EQ s A n c B m d)) (w.heap.size) (.bool s) (.slice A n c) (.slice B m d) := by have h_ := Sq.new (w) (.bool s) (.slice A n c) (.slice B m d); exact h_
  have F1 := (Below.refl w.heap.size w).alloc (Nat.le_refl _) (EQ s A n c B m d)
  have h_2 := h_1.alloc (EQ t A' n' c' B' m' d')
  have k_2 := k_1.alloc (EQ t A' n' c' B' m' d')
  have ba_2 := ba_1.alloc (EQ t A' n' c' B' m' d')
  have bb_2 : Sq (((w).alloc (EQ s A n c B m d)).alloc (EQ t A' n' c' B' m' d')) (w.heap.size + 1) (.bool t) (.slice A' n' c') (.slice B' m' d') := by have h_ := Sq.new ((w).alloc (EQ s A n c B m d)) (.bool t) (.slice A' n' c') (.slice B' m' d'); simp only [World.size_alloc] at h_; exact h_
  have F2 := F1.alloc F1.size (EQ t A' n' c' B' m' d')
  have h_3 := h_2.alloc EQ0
  have k_3 := k_2.alloc EQ0
  have ba_3 := ba_2.alloc EQ0
  have bb_3 := bb_2.alloc EQ0
  have br_3 : Sq ((((w).alloc (EQ s A n c B m d)).alloc (EQ t A' n' c' B' m' d')).alloc EQ0) (w.heap.size + 2) (.bool false) (.slice none 0 0) (.slice none 0 0) := by have h_ := Sq.new (((w).alloc (EQ s A n c B m d)).alloc (EQ t A' n' c' B' m' d')) (.bool false) (.slice none 0 0) (.slice none 0 0); simp only [World.size_alloc] at h_; exact h_
  have F3 := F2.alloc F2.size EQ0
  go_enter Tryz.func47, Tryz.ntmps47
  go_wp2_with fail
  have h_4 := h_3.drew
  have k_4 := k_3.drew
  have ba_4 := ba_3.drew
  have bb_4 := bb_3.drew
  have br_4 := br_3.drew
  have F4 := F3.drew
  go_region_held3 (fun w' => w'.cell? ⟨w.heap.size, 0, none⟩ = some (.bool s) ∧ w'.cell? ⟨w.heap.size, 1, none⟩ = some (.slice A n c) ∧ w'.cell? ⟨w.heap.size, 2, none⟩ = some (.slice B m d) ∧ w'.cell? ⟨w.heap.size + 1, 0, none⟩ = some (.bool t) ∧ w'.cell? ⟨w.heap.size + 1, 1, none⟩ = some (.slice A' n' c') ∧ w'.cell? ⟨w.heap.size + 1, 2, none⟩ = some (.slice B' m' d'))
    (first
      | with_reducible exact ⟨ba_p.cell0, ba_p.cell1, ba_p.cell2, bb_p.cell0, bb_p.cell1, bb_p.cell2⟩
      | with_reducible exact ⟨ba_6.cell0, ba_6.cell1, ba_6.cell2, bb_6.cell0, bb_6.cell1, bb_6.cell2⟩
      | with_reducible exact ⟨ba_5.cell0, ba_5.cell1, ba_5.cell2, bb_5.cell0, bb_5.cell1, bb_5.cell2⟩
      | with_reducible exact ⟨ba_4.cell0, ba_4.cell1, ba_4.cell2, bb_4.cell0, bb_4.cell1, bb_4.cell2⟩
      | fail)
    (first
      | (go_at_call 74; (with_reducible refine (rneg_q _ _ _ _ _ _ _ _ _ k_4 n3 n4).mono ?_); rintro e w5 ⟨s5, A5, n5, c5, B5, m5, d5, rfl, kn, b5⟩; have h_5 := h_4.below b5; have k_5 := k_4.below b5; have ba_5 := ba_4.below b5 ba_4.lt; have bb_5 := bb_4.below b5 bb_4.lt; have br_5 := br_4.below b5 br_4.lt; have F5 := below_then F4 (Nat.le_refl _) b5; have l1 := kn.ln hs.1; have l2 := kn.ld hs.2)
      | (go_at_call 73; (with_reducible refine (radd_q _ _ _ _ _ _ _ _ _ _ _ _ _ _ _ _ r _ HR.out h_5 kn.iq hn hm l1 l2).mono ?_); rintro e w6 ⟨s6, A6, n6, c6, B6, m6, d6, rfl, kk, b6⟩; have h_6 := h_5.below b6; have k_6 := k_5.below b6; have kn_6 := kn.below b6; have ba_6 := ba_5.below b6 ba_5.lt; have bb_6 := bb_5.below b6 bb_5.lt; have br_6 := br_5.below b6 br_5.lt; have F6 := below_then F5 (Nat.le_refl _) b6; have br_g0 := br_6.cell0; have br_h0 := br_6.frozen 0; have br_g1 := br_6.cell1; have br_h1 := br_6.frozen 1; have br_g2 := br_6.cell2; have br_h2 := br_6.frozen 2; have ba_p := ba_6.past (g' := w.heap.size + 2) (u0 := .bool s6) (u1 := .slice A6 n6 c6) (u2 := .slice B6 m6 d6) (by omega); have bb_p := bb_6.past (g' := w.heap.size + 2) (u0 := .bool s6) (u1 := .slice A6 n6 c6) (u2 := .slice B6 m6 d6) (by omega))
      | fail)
  go_wp2_with fail
  refine bodyPost_ret (v := .agg #[.bool s6, .slice A6 n6 c6, .slice B6 m6 d6]) (by simp [results, Tryz.results47, go_sem, (br_6.set0 (.bool s6)).cell0, ((br_6.set0 (.bool s6)).set1 (.slice A6 n6 c6)).cell1, (((br_6.set0 (.bool s6)).set1 (.slice A6 n6 c6)).set2 (.slice B6 m6 d6)).cell2]) rfl (gq_end F6 (by omega) br_6 kk)
theorem iv_prod (s t : Bool) (xs xs' : List Nat) : iv (!s == t) (dg (val xs * val xs')) = iv s xs * iv t xs' := by
  have := iv_mul s t xs xs'
  rw [← this]
  unfold iv
  rw [val_dg]
theorem num_zero {q : Rat} : q.num = 0 ↔ q = 0 := Rat.num_eq_zero
theorem div_value (s t : Bool) (xs ys xs' ys' : List Nat) (h0 : rv t xs' ys' ≠ 0) : mkRat (iv (!s == t) (dg (val xs * rden ys'))) (rden ys * val xs') = rv s xs ys / rv t xs' ys' := by
  have hx' : val xs' ≠ 0 := by
    intro e
    apply h0
    rw [rv, show iv t xs' = 0 by unfold iv; simp [e], Rat.zero_mkRat]
  have hd := rden_pos ys
  have hd' := rden_pos ys'
  have e1 : iv (!s == t) (dg (val xs * rden ys')) = iv (!s == t) xs * (rden ys' : Int) := iv_times _ _ _ _ rfl
  rw [e1, rv, rv, Rat.mkRat_eq_div, Rat.mkRat_eq_div, Rat.mkRat_eq_div]
  have a1 : ((rden ys : Nat) : Rat) ≠ 0 := by simpa using hd
  have a2 : ((rden ys' : Nat) : Rat) ≠ 0 := by simpa using hd'
  have a3 : ((val xs' : Nat) : Rat) ≠ 0 := by simpa using hx'
  cases s <;> cases t <;> simp [iv, Rat.intCast_neg, Rat.intCast_mul, Rat.intCast_natCast, Rat.natCast_mul] <;> grind
end Go.Proofs.YtnddhohjfjlaiaaGreatDoor

/-
  The specification's Cmp, Min, Max, Frac.
-/
namespace Go.Proofs.YtnddhohjfjlaiaaGreatDoor
open Go.RowKit
set_option linter.unusedVariables false
set_option linter.unusedSimpArgs false

theorem rcmp_q (s t : Bool) (A B A' B' : Option Addr) (n c m d n' c' m' d' : Nat) (p q : Rat) (r : Int) (w : World) (hr : sz (p - q).num = r) (h : Iq w s A n c B m d p) (k : Iq w t A' n' c' B' m' d' q) (hn : n ≤ 4000) (hm : m ≤ 4000) (hn' : n' ≤ 4000) (hm' : m' ≤ 4000) :
    Calls Tryz.prog 30 #[.agg #[.bool s, .slice A n c, .slice B m d], .agg #[.bool t, .slice A' n' c', .slice B' m' d']] w (Asks w (.int .i64 r)) := by
  have hs := size_sub (h.size hn hm (by omega)) (k.size hn' hm' (by omega))
  have HR := hide hr
  clear hr
  have h_1 := h.alloc (EQ s A n c B m d)
  have k_1 := k.alloc (EQ s A n c B m d)
  have ba_1 : Sq ((w).alloc (EQ s A n c B m d)) (w.heap.size) (.bool s) (.slice A n c) (.slice B m d) := by have h_ := Sq.new (w) (.bool s) (.slice A n c) (.slice B m d); exact h_
  have F1 := (Below.refl w.heap.size w).alloc (Nat.le_refl _) (EQ s A n c B m d)
  have h_2 := h_1.alloc (EQ t A' n' c' B' m' d')
  have k_2 := k_1.alloc (EQ t A' n' c' B' m' d')
  have ba_2 := ba_1.alloc (EQ t A' n' c' B' m' d')
  have bb_2 : Sq (((w).alloc (EQ s A n c B m d)).alloc (EQ t A' n' c' B' m' d')) (w.heap.size + 1) (.bool t) (.slice A' n' c') (.slice B' m' d') := by have h_ := Sq.new ((w).alloc (EQ s A n c B m d)) (.bool t) (.slice A' n' c') (.slice B' m' d'); simp only [World.size_alloc] at h_; exact h_
  have F2 := F1.alloc F1.size (EQ t A' n' c' B' m' d')
  go_enter Tryz.func30, Tryz.ntmps30
  go_wp2_with fail
  refine (rsub_q _ _ _ _ _ _ _ _ _ _ _ _ _ _ _ _ _ _ rfl h_2 k_2 hn hm hn' hm').mono ?_
  rintro e w3 ⟨s3, A3, n3, c3, B3, m3, d3, rfl, x, b3⟩
  have h_3 := h_2.below b3
  have k_3 := k_2.below b3
  have ba_3 := ba_2.below b3 ba_2.lt
  have bb_3 := bb_2.below b3 bb_2.lt
  have F3 := below_then F2 (Nat.le_refl _) b3
  have ba_u3 := ba_3.cell0
  have ba_v3 := ba_3.cell1
  have ba_w3 := ba_3.cell2
  have bb_u3 := bb_3.cell0
  have bb_v3 := bb_3.cell1
  have bb_w3 := bb_3.cell2
  have l1 := Nat.le_trans (x.ln hs.1) (show 4000 + 4000 + 1 ≤ 16384 by omega)
  go_wp2_with fail
  refine (rsign_q _ _ _ _ _ _ _ _ _ _ HR.out x.iq l1).mono ?_
  rintro e w4 ⟨rfl, b4⟩
  have h_4 := h_3.below b4
  have k_4 := k_3.below b4
  have x_4 := x.below b4
  have ba_4 := ba_3.below b4 ba_3.lt
  have bb_4 := bb_3.below b4 bb_3.lt
  have F4 := below_then F3 (Nat.le_refl _) b4
  have ba_u4 := ba_4.cell0
  have ba_v4 := ba_4.cell1
  have ba_w4 := ba_4.cell2
  have bb_u4 := bb_4.cell0
  have bb_v4 := bb_4.cell1
  have bb_w4 := bb_4.cell2
  go_wp2
  go_ret
  exact ⟨rfl, F4⟩
theorem sz_le {z : Int} : sz z ≤ 0 ↔ z ≤ 0 := by
  unfold sz
  (repeat' split) <;> omega
theorem cmp_le {p q : Rat} : sz (p - q).num ≤ 0 ↔ p ≤ q := by
  rw [sz_le]
  have e : (p - q).num ≤ 0 ↔ p - q ≤ 0 := by
    have := Rat.le_iff (p - q) 0
    simpa using this.symm
  rw [e]
  constructor <;> intro h <;> grind
theorem sz_opp' (z : Int) : sz (-z) = - sz z := by
  unfold sz
  (repeat' split) <;> omega
theorem sz_swap (p q : Rat) : sz (q - p).num = - sz (p - q).num := by
  rw [← Rat.neg_sub, Rat.neg_num, sz_opp']
theorem i64_small {x : Int} (h1 : -9223372036854775808 ≤ x) (h2 : x ≤ 9223372036854775807) : x.natAbs < pw 2 := by
  have : pw 2 = 18446744073709551616 := by decide
  omega
end Go.Proofs.YtnddhohjfjlaiaaGreatDoor

/-
  The specification's DivMod of integers.
-/
namespace Go.Proofs.YtnddhohjfjlaiaaGreatDoor
open Go.RowKit
set_option linter.unusedVariables false
set_option linter.unusedSimpArgs false

theorem radd_L (A B : Option Addr) (n m c d : Nat) (xs ys : List Nat) (w : World) (X Y Z L : Nat) (hx : val xs = X) (hy : val ys = Y) (hz : X + Y = Z) (hL : (dg Z).length = L) (h : Rd w A n c xs) (h2 : Rd w B m d ys) (hn : n ≤ 1048576) (hm : m ≤ 1048576) :
    Calls Tryz.prog 85 #[.slice A n c, .slice B m d] w fun e w' => ∃ A1 c1, e = .returned (.slice A1 L c1) ∧ Rd w' A1 L c1 (dg Z) ∧ Below w.heap.size w w' := by
  subst hL
  exact radd_at A B n m c d xs ys w X Y Z hx hy hz h h2 hn hm
theorem rsub_L (A B : Option Addr) (n m c d : Nat) (xs ys : List Nat) (w : World) (X Y Z L : Nat) (hx : val xs = X) (hy : val ys = Y) (hz : X - Y = Z) (hle : Y ≤ X) (hL : (dg Z).length = L) (h : Rd w A n c xs) (h2 : Rd w B m d ys) (hn : n ≤ 1048576) (hm : m ≤ 1048576) :
    Calls Tryz.prog 102 #[.slice A n c, .slice B m d] w fun e w' => ∃ A1 c1, e = .returned (.tuple #[.slice A1 L c1, .int .i64 0]) ∧ Rd w' A1 L c1 (dg Z) ∧ Below w.heap.size w w' := by
  subst hL hz hx hy
  exact rsub_ge A B n m c d xs ys w h h2 hn hm hle
end Go.Proofs.YtnddhohjfjlaiaaGreatDoor
