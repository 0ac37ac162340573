/-
  Numbers as slices with bounds; the program's isOne, divided, dividend, divisor, multiple.
-/
import Derived.Test.YthiapkalmmgliaaDoorM5
namespace Go.Proofs.YthiapkalmmgliaaDoor
open Go.RowKit
set_option linter.unusedVariables false
set_option linter.unusedSimpArgs false

/-- A slice of at most k limbs that reads as the number X. -/
def Nz (w : World) (A : Option Addr) (n c k X : Nat) : Prop := n ≤ k ∧ ∃ xs, Rd w A n c xs ∧ val xs = X
/-- .. in the canonical form. -/
def Ny (w : World) (A : Option Addr) (n c k X : Nat) : Prop := n ≤ k ∧ Rd w A n c (dg X)
def GN (w : World) (k X : Nat) (e : Ending) (w' : World) : Prop := ∃ A n c, e = .returned (.slice A n c) ∧ Nz w' A n c k X ∧ Below w.heap.size w w'
def GY (w : World) (k X : Nat) (e : Ending) (w' : World) : Prop := ∃ A n c, e = .returned (.slice A n c) ∧ Ny w' A n c k X ∧ Below w.heap.size w w'
section
variable {w w' : World} {A : Option Addr} {n c k X : Nat}
theorem Nz.below (h : Nz w A n c k X) (hb : Below w.heap.size w w') : Nz w' A n c k X := ⟨h.1, h.2.elim fun xs hx => ⟨xs, hx.1.below hb, hx.2⟩⟩
theorem Ny.below (h : Ny w A n c k X) (hb : Below w.heap.size w w') : Ny w' A n c k X := ⟨h.1, h.2.below hb⟩
theorem Nz.alloc (h : Nz w A n c k X) (o : Obj) : Nz (w.alloc o) A n c k X := h.below ((Below.refl _ _).alloc (Nat.le_refl _) _)
theorem Ny.alloc (h : Ny w A n c k X) (o : Obj) : Ny (w.alloc o) A n c k X := h.below ((Below.refl _ _).alloc (Nat.le_refl _) _)
theorem Nz.drew (h : Nz w A n c k X) : Nz w.drew A n c k X := h.below (Below.refl _ _).drew
theorem Ny.drew (h : Ny w A n c k X) : Ny w.drew A n c k X := h.below (Below.refl _ _).drew
theorem Ny.nz (h : Ny w A n c k X) : Nz w A n c k X := ⟨h.1, _, h.2, val_dg X⟩
theorem Nz.mono {j : Nat} (h : Nz w A n c k X) (hk : k ≤ j) : Nz w A n c j X := ⟨Nat.le_trans h.1 hk, h.2⟩
theorem Ny.mono {j : Nat} (h : Ny w A n c k X) (hk : k ≤ j) : Ny w A n c j X := ⟨Nat.le_trans h.1 hk, h.2⟩
theorem Nz.lt (h : Nz w A n c k X) : X < pw k := by
  obtain ⟨h1, xs, h2, h3⟩ := h
  rw [← h3]; exact rd_lt h2 h1
theorem Ny.lt (h : Ny w A n c k X) : X < pw k := h.nz.lt
theorem Ny.le (h : Ny w A n c k X) : n ≤ k := h.1
theorem Ny.len (h : Ny w A n c k X) : (dg X).length = n := h.2.len
theorem Rd.nz {xs : List Nat} (h : Rd w A n c xs) (hn : n ≤ k) : Nz w A n c k (val xs) := ⟨hn, xs, h, rfl⟩
theorem Rd.ny {X : Nat} (h : Rd w A n c (dg X)) (hX : X < pw k) : Ny w A n c k X := ⟨by have := h.len; have := dg_le hX; omega, h⟩
theorem Ny.iz (h : Ny w A n c k X) (s : Bool) : Iz w s A n c (iv s (dg X)) := ⟨_, h.2, rfl⟩
theorem Cz.ny {s : Bool} {z : Int} (h : Cz w s A n c z) (hz : z.natAbs < pw k) : Ny w A n c k z.natAbs := h.1.ny hz
end
theorem gy_of {w w' : World} {X k : Nat} {e : Ending} (h : Gives w (dg X) e w') (hX : X < pw k) : GY w k X e w' := by
  obtain ⟨A, c, he, hr, hb⟩ := h
  exact ⟨A, _, c, he, ⟨dg_le hX, hr⟩, hb⟩
theorem nb_one {xs : List Nat} (hs : Sm xs) : nb xs = 1 ↔ val xs = 1 := by
  have h0 := nb_zero hs
  constructor
  · intro h
    have h1 := (nb_any hs).2
    rw [h] at h1
    have : val xs ≠ 0 := fun e => by have := h0.2 e; omega
    omega
  · intro h
    have h1 := dg_val hs
    have h2 := len_dg_val hs
    rw [h, dg_small (by omega) (by omega)] at h1 h2
    have h3 : tlen xs = 1 := by simpa using h2.symm
    rw [h3] at h1
    have h4 : lim (xs.take 1) 0 = lim xs 0 := lim_take (by omega)
    rw [← h1] at h4
    unfold nb
    rw [if_neg (by omega), h3, show 1 - 1 = 0 from rfl, ← h4, show lim [1] 0 = 1 from rfl]
    decide
theorem mul_n (A B : Option Addr) (n m c d k l j X Y Z : Nat) (w : World) (hZ : X * Y = Z) (h : Nz w A n c k X) (h2 : Nz w B m d l Y) (hj : k + l ≤ j) (hJ : j ≤ 1048576) :
    Calls Tryd.prog 66 #[.slice A n c, .slice B m d] w (GY w j Z) := by
  have l1 := mul_pw h.lt h2.lt
  obtain ⟨h1, xs, hx, ex⟩ := h
  obtain ⟨k1, ys, hy, ey⟩ := h2
  exact (mul_at A B n m c d xs ys w X Y Z ex ey hZ hx hy (by omega) (by omega)).mono fun e w' hg => gy_of hg (by rw [← hZ]; exact Nat.lt_of_lt_of_le l1 (pw_mono hj))
theorem add_n (A B : Option Addr) (n m c d k j X Y Z : Nat) (w : World) (hZ : X + Y = Z) (h : Nz w A n c k X) (h2 : Nz w B m d k Y) (hj : k + 1 ≤ j) (hJ : j ≤ 1048576) :
    Calls Tryd.prog 92 #[.slice A n c, .slice B m d] w (GY w j Z) := by
  have l1 := add_pw h.lt h2.lt
  obtain ⟨h1, xs, hx, ex⟩ := h
  obtain ⟨k1, ys, hy, ey⟩ := h2
  exact (add_at A B n m c d xs ys w X Y Z ex ey hZ hx hy (by omega) (by omega)).mono fun e w' hg => gy_of hg (by rw [← hZ]; exact Nat.lt_of_lt_of_le l1 (pw_mono hj))
theorem make_n (A : Option Addr) (n c k X : Nat) (w : World) (h : Nz w A n c k X) (hJ : k ≤ 1048576) :
    Calls Tryd.prog 52 #[.slice A n c] w (GY w k X) := by
  have hl := h.lt
  obtain ⟨h1, xs, hx, ex⟩ := h
  exact (make_at A n c xs w X _ ex rfl hx (by omega)).mono fun e w' ⟨A1, c1, he, hr, hb⟩ => ⟨A1, _, c1, he, ⟨dg_le hl, hr⟩, hb⟩
def GD (w : World) (k l X Y : Nat) (e : Ending) (w' : World) : Prop := ∃ A n c B m d, e = .returned (.tuple #[.slice A n c, .slice B m d, .int .i64 0]) ∧ Ny w' A n c k X ∧ Ny w' B m d l Y ∧ Below w.heap.size w w'
theorem div_n (A B : Option Addr) (n m c d k l X Y Q R : Nat) (w : World) (hQ : X / Y = Q) (hR : X % Y = R) (hY : 0 < Y) (h : Nz w A n c k X) (h2 : Nz w B m d l Y) (hk : k ≤ 65536) (hl : l ≤ 65536) :
    Calls Tryd.prog 44 #[.slice A n c, .slice B m d] w (GD w k l Q R) := by
  have l1 : Q < pw k := by rw [← hQ]; exact Nat.lt_of_le_of_lt (Nat.div_le_self _ _) h.lt
  have l2 : R < pw l := by rw [← hR]; exact Nat.lt_trans (Nat.mod_lt _ hY) h2.lt
  obtain ⟨h1, xs, hx, ex⟩ := h
  obtain ⟨k1, ys, hy, ey⟩ := h2
  subst hQ hR ex ey
  refine (divmod_len A B n m c d xs ys w _ _ rfl rfl hY hx hy (by omega) (by omega)).mono ?_
  rintro e w' ⟨A1, c1, B1, d1, he, r1, r2, hb⟩
  exact ⟨A1, _, c1, B1, _, d1, he, ⟨dg_le l1, r1⟩, ⟨dg_le l2, r2⟩, hb⟩
theorem one_n (w : World) (k : Nat) (hk : 1 ≤ k) : Calls Tryd.prog 51 #[.int .u64 1] w (GY w k 1) :=
  (of_calls 1 w (by omega)).mono fun _ _ hg => gy_of hg (Nat.lt_of_lt_of_le (by decide : 1 < pw 1) (pw_mono hk))
def GIs (w : World) (s : Bool) (A : Option Addr) (n c : Nat) (e : Ending) (w' : World) : Prop := e = .returned (.agg #[.bool s, .slice A n c]) ∧ Below w.heap.size w w'
theorem bits0 {A : Option Addr} {n c : Nat} {xs : List Nat} {w : World} (h : Rd w A n c xs) {r : Nat} (hr : nb xs = r) (b : Bool) (hb : decide (val xs = 0) = b) : (((r : Nat) : Int) == 0) = b := by
  rw [← hb, ← hr]
  have := nb_zero h.sm
  rw [Bool.eq_iff_iff]
  simp
  omega
def GM (w : World) (s : Bool) (k X : Nat) (e : Ending) (w' : World) : Prop := ∃ A n c, e = .returned (.agg #[.bool s, .slice A n c]) ∧ Ny w' A n c k X ∧ Below w.heap.size w w'
theorem Ny.far {w : World} {A : Option Addr} {n c k X : Nat} (h : Ny w A n c k X) {g : Nat} {s0 : Bool} {A0 : Option Addr} {n0 c0 : Nat} (hs : Sb w g (.bool s0) (.slice A0 n0 c0)) (u0 u1 : Value) : Ny ((w.setCell ⟨g, 0, none⟩ u0).setCell ⟨g, 1, none⟩ u1) A n c k X :=
  ⟨h.1, h.2.storI hs u0 u1⟩
end Go.Proofs.YthiapkalmmgliaaDoor
