/-
  Numbers as slices with bounds; the program's isOne, divided, dividend, divisor, multiple.
-/
import Derived.Test.YtnddhohjfjlaiaaGreatDoorM5
namespace Go.Proofs.YtnddhohjfjlaiaaGreatDoor
open Go.RowKit
set_option linter.unusedVariables false
set_option linter.unusedSimpArgs false

/-- A slice of at most k limbs that reads as the number X. -/
def Nz (w : World) (A : Option Addr) (n c k X : Nat) : Prop := n ≤ k ∧ ∃ xs, Rd w A n c xs ∧ val xs = X
/-- .. in the canonical form. -/
def Ny (w : World) (A : Option Addr) (n c k X : Nat) : Prop := n ≤ k ∧ Rd w A n c (dg X)
def GN (w : World) (k X : Nat) (e : Ending) (w' : World) : Prop := ∃ A n c, e = .returned (.slice A n c) ∧ Nz w' A n c k X ∧ Below w.heap.size w w'
def GY (w : World) (k X : Nat) (e : Ending) (w' : World) : Prop := ∃ A n c, e = .returned (.slice A n c) ∧ Ny w' A n c k X ∧ Below w.heap.size w w'
section
variable {w w' : World} {A : Option Addr} {n c k X : Nat}
theorem Nz.below (h : Nz w A n c k X) (hb : Below w.heap.size w w') : Nz w' A n c k X := ⟨h.1, h.2.elim fun xs hx => ⟨xs, hx.1.below hb, hx.2⟩⟩
theorem Ny.below (h : Ny w A n c k X) (hb : Below w.heap.size w w') : Ny w' A n c k X := ⟨h.1, h.2.below hb⟩
theorem Nz.alloc (h : Nz w A n c k X) (o : Obj) : Nz (w.alloc o) A n c k X := h.below ((Below.refl _ _).alloc (Nat.le_refl _) _)
theorem Ny.alloc (h : Ny w A n c k X) (o : Obj) : Ny (w.alloc o) A n c k X := h.below ((Below.refl _ _).alloc (Nat.le_refl _) _)
theorem Nz.drew (h : Nz w A n c k X) : Nz w.drew A n c k X := h.below (Below.refl _ _).drew
theorem Ny.drew (h : Ny w A n c k X) : Ny w.drew A n c k X := h.below (Below.refl _ _).drew
theorem Ny.nz (h : Ny w A n c k X) : Nz w A n c k X := ⟨h.1, _, h.2, val_dg X⟩
theorem Nz.mono {j : Nat} (h : Nz w A n c k X) (hk : k ≤ j) : Nz w A n c j X := ⟨Nat.le_trans h.1 hk, h.2⟩
theorem Ny.mono {j : Nat} (h : Ny w A n c k X) (hk : k ≤ j) : Ny w A n c j X := ⟨Nat.le_trans h.1 hk, h.2⟩
theorem Nz.lt (h : Nz w A n c k X) : X < pw k := by
  obtain ⟨h1, xs, h2, h3⟩ := h
  rw [← h3]; exact rd_lt h2 h1
theorem Ny.lt (h : Ny w A n c k X) : X < pw k := h.nz.lt
theorem Ny.le (h : Ny w A n c k X) : n ≤ k := h.1
theorem Ny.len (h : Ny w A n c k X) : (dg X).length = n := h.2.len
theorem Rd.nz {xs : List Nat} (h : Rd w A n c xs) (hn : n ≤ k) : Nz w A n c k (val xs) := ⟨hn, xs, h, rfl⟩
theorem Rd.ny {X : Nat} (h : Rd w A n c (dg X)) (hX : X < pw k) : Ny w A n c k X := ⟨by have := h.len; have := dg_le hX; omega, h⟩
theorem Ny.iz (h : Ny w A n c k X) (s : Bool) : Iz w s A n c (iv s (dg X)) := ⟨_, h.2, rfl⟩
theorem Cz.ny {s : Bool} {z : Int} (h : Cz w s A n c z) (hz : z.natAbs < pw k) : Ny w A n c k z.natAbs := h.1.ny hz
end
theorem gy_of {w w' : World} {X k : Nat} {e : Ending} (h : Gives w (dg X) e w') (hX : X < pw k) : GY w k X e w' := by
  obtain ⟨A, c, he, hr, hb⟩ := h
  exact ⟨A, _, c, he, ⟨dg_le hX, hr⟩, hb⟩
theorem nb_one {xs : List Nat} (hs : Sm xs) : nb xs = 1 ↔ val xs = 1 := by
  have h0 := nb_zero hs
  constructor
  · intro h
    have h1 := (nb_any hs).2
    rw [h] at h1
    have : val xs ≠ 0 := fun e => by have := h0.2 e; omega
    omega
  · intro h
    have h1 := dg_val hs
    have h2 := len_dg_val hs
    rw [h, dg_small (by omega) (by omega)] at h1 h2
    have h3 : tlen xs = 1 := by simpa using h2.symm
    rw [h3] at h1
    have h4 : lim (xs.take 1) 0 = lim xs 0 := lim_take (by omega)
    rw [← h1] at h4
    unfold nb
    rw [if_neg (by omega), h3, show 1 - 1 = 0 from rfl, ← h4, show lim [1] 0 = 1 from rfl]
    decide
theorem isone_n (A : Option Addr) (n c k X : Nat) (b : Bool) (w : World) (hb : decide (X = 1) = b) (h : Nz w A n c k X) (hk : k ≤ 1048576) :
    Calls Tryz.prog 68 #[.slice A n c] w fun e w' => e = .returned (.bool b) ∧ w = w' := by
  obtain ⟨h1, xs, h2, h3⟩ := h
  have hn : n ≤ 1048576 := by omega
  obtain ⟨r, hr⟩ : ∃ r, nb xs = r := ⟨_, rfl⟩
  have e1 : (((r : Nat) : Int) == 1) = b := by
    rw [← hb, ← h3, ← hr]
    have := nb_one h2.sm
    rw [Bool.eq_iff_iff]
    simp
    omega
  have HR := hide hr
  clear hr h1 h3 hb
  cases b
  all_goals
    go_enter Tryz.func68, Tryz.ntmps68
    go_wp2_with fail
    refine (bits_calls _ _ _ xs _ r HR.out h2 hn).mono ?_
    rintro e w' ⟨rfl, rfl⟩
    go_wp2
    go_ret
    exact ⟨rfl, rfl⟩
theorem isone_a (A : Option Addr) (n c k X : Nat) (b : Bool) (w : World) (hb : decide (X = 1) = b) (h : Nz w A n c k X) (hk : k ≤ 1048576) :
    Calls Tryz.prog 68 #[.slice A n c] w (Asks w (.bool b)) :=
  (isone_n A n c k X b w hb h hk).mono fun _ _ ⟨he, hw⟩ => ⟨he, by rw [hw]; exact Below.refl _ _⟩
theorem mul_n (A B : Option Addr) (n m c d k l j X Y Z : Nat) (w : World) (hZ : X * Y = Z) (h : Nz w A n c k X) (h2 : Nz w B m d l Y) (hj : k + l ≤ j) (hJ : j ≤ 1048576) :
    Calls Tryz.prog 45 #[.slice A n c, .slice B m d] w (GY w j Z) := by
  have l1 := mul_pw h.lt h2.lt
  obtain ⟨h1, xs, hx, ex⟩ := h
  obtain ⟨k1, ys, hy, ey⟩ := h2
  exact (mul_at A B n m c d xs ys w X Y Z ex ey hZ hx hy (by omega) (by omega)).mono fun e w' hg => gy_of hg (by rw [← hZ]; exact Nat.lt_of_lt_of_le l1 (pw_mono hj))
theorem add_n (A B : Option Addr) (n m c d k j X Y Z : Nat) (w : World) (hZ : X + Y = Z) (h : Nz w A n c k X) (h2 : Nz w B m d k Y) (hj : k + 1 ≤ j) (hJ : j ≤ 1048576) :
    Calls Tryz.prog 80 #[.slice A n c, .slice B m d] w (GY w j Z) := by
  have l1 := add_pw h.lt h2.lt
  obtain ⟨h1, xs, hx, ex⟩ := h
  obtain ⟨k1, ys, hy, ey⟩ := h2
  exact (add_at A B n m c d xs ys w X Y Z ex ey hZ hx hy (by omega) (by omega)).mono fun e w' hg => gy_of hg (by rw [← hZ]; exact Nat.lt_of_lt_of_le l1 (pw_mono hj))
theorem make_n (A : Option Addr) (n c k X : Nat) (w : World) (h : Nz w A n c k X) (hJ : k ≤ 1048576) :
    Calls Tryz.prog 34 #[.slice A n c] w (GY w k X) := by
  have hl := h.lt
  obtain ⟨h1, xs, hx, ex⟩ := h
  exact (make_at A n c xs w X _ ex rfl hx (by omega)).mono fun e w' ⟨A1, c1, he, hr, hb⟩ => ⟨A1, _, c1, he, ⟨dg_le hl, hr⟩, hb⟩
theorem gcd_n (A B : Option Addr) (n m c d k l X Y Z : Nat) (w : World) (hZ : Nat.gcd X Y = Z) (hY : 0 < Y) (h : Nz w A n c k X) (h2 : Nz w B m d l Y) (hk : k ≤ 65536) (hl : l ≤ 65536) :
    Calls Tryz.prog 69 #[.slice A n c, .slice B m d] w (GY w l Z) := by
  have l1 : Z < pw l := by rw [← hZ]; exact Nat.lt_of_le_of_lt (Nat.gcd_le_right _ hY) h2.lt
  obtain ⟨h1, xs, hx, ex⟩ := h
  obtain ⟨k1, ys, hy, ey⟩ := h2
  subst ex ey hZ
  exact (gcd_calls A B n m c d xs ys w _ _ hx hy (by omega) (by omega) rfl rfl).mono fun e w' hg => gy_of hg l1
def GD (w : World) (k l X Y : Nat) (e : Ending) (w' : World) : Prop := ∃ A n c B m d, e = .returned (.tuple #[.slice A n c, .slice B m d, .int .i64 0]) ∧ Ny w' A n c k X ∧ Ny w' B m d l Y ∧ Below w.heap.size w w'
theorem div_n (A B : Option Addr) (n m c d k l X Y Q R : Nat) (w : World) (hQ : X / Y = Q) (hR : X % Y = R) (hY : 0 < Y) (h : Nz w A n c k X) (h2 : Nz w B m d l Y) (hk : k ≤ 65536) (hl : l ≤ 65536) :
    Calls Tryz.prog 79 #[.slice A n c, .slice B m d] w (GD w k l Q R) := by
  have l1 : Q < pw k := by rw [← hQ]; exact Nat.lt_of_le_of_lt (Nat.div_le_self _ _) h.lt
  have l2 : R < pw l := by rw [← hR]; exact Nat.lt_trans (Nat.mod_lt _ hY) h2.lt
  obtain ⟨h1, xs, hx, ex⟩ := h
  obtain ⟨k1, ys, hy, ey⟩ := h2
  subst hQ hR ex ey
  refine (divmod_len A B n m c d xs ys w _ _ rfl rfl hY hx hy (by omega) (by omega)).mono ?_
  rintro e w' ⟨A1, c1, B1, d1, he, r1, r2, hb⟩
  exact ⟨A1, _, c1, B1, _, d1, he, ⟨dg_le l1, r1⟩, ⟨dg_le l2, r2⟩, hb⟩
theorem one_n (w : World) (k : Nat) (hk : 1 ≤ k) : Calls Tryz.prog 33 #[.int .u64 1] w (GY w k 1) :=
  (of_calls 1 w (by omega)).mono fun _ _ hg => gy_of hg (Nat.lt_of_lt_of_le (by decide : 1 < pw 1) (pw_mono hk))
theorem divided_1 (A B : Option Addr) (n m c d k l X : Nat) (w : World) (h : Ny w A n c k X) (h2 : Nz w B m d l 1) (hk : k ≤ 65536) (hl : l ≤ 65536) :
    Calls Tryz.prog 70 #[.slice A n c, .slice B m d] w (GY w k X) := by
  have l2 : l ≤ 1048576 := by omega
  go_enter Tryz.func70, Tryz.ntmps70
  go_wp2_with fail
  refine (isone_n _ _ _ _ _ true _ rfl h2 l2).mono ?_
  rintro e w' ⟨rfl, rfl⟩
  go_wp2
  go_ret
  exact ⟨_, _, _, rfl, h, Below.refl _ _⟩
theorem divided_g (A B : Option Addr) (n m c d k l X Y Z : Nat) (w : World) (hZ : X / Y = Z) (hY : 0 < Y) (h1 : Y ≠ 1) (h : Ny w A n c k X) (h2 : Nz w B m d l Y) (hk : k ≤ 65536) (hl : l ≤ 65536) :
    Calls Tryz.prog 70 #[.slice A n c, .slice B m d] w (GY w k Z) := by
  have l2 : l ≤ 1048576 := by omega
  have HE := hide (show decide (Y = 1) = false by simpa using h1)
  have HZ := hide hZ
  clear h1 hZ
  have hz := h.nz
  go_enter Tryz.func70, Tryz.ntmps70
  go_wp2_with fail
  refine (isone_n _ _ _ _ _ false _ HE.out h2 l2).mono ?_
  rintro e w' ⟨rfl, rfl⟩
  go_wp2_with fail
  refine (div_n _ _ _ _ _ _ _ _ _ _ _ _ _ HZ.out rfl hY hz h2 hk hl).mono ?_
  rintro e w1 ⟨A1, n1, c1, B1, m1, d1, rfl, r1, r2, b1⟩
  go_wp2
  go_ret
  exact ⟨_, _, _, rfl, r1, b1⟩
theorem divided_n (A B : Option Addr) (n m c d k l X Y Z : Nat) (w : World) (hZ : X / Y = Z) (hY : 0 < Y) (h : Ny w A n c k X) (h2 : Nz w B m d l Y) (hk : k ≤ 65536) (hl : l ≤ 65536) :
    Calls Tryz.prog 70 #[.slice A n c, .slice B m d] w (GY w k Z) := by
  by_cases h1 : Y = 1
  · subst h1
    rw [Nat.div_one] at hZ
    subst hZ
    exact divided_1 A B n m c d k l X w h h2 hk hl
  · exact divided_g A B n m c d k l X Y Z w hZ hY h1 h h2 hk hl
def GIs (w : World) (s : Bool) (A : Option Addr) (n c : Nat) (e : Ending) (w' : World) : Prop := e = .returned (.agg #[.bool s, .slice A n c]) ∧ Below w.heap.size w w'
theorem bits0 {A : Option Addr} {n c : Nat} {xs : List Nat} {w : World} (h : Rd w A n c xs) {r : Nat} (hr : nb xs = r) (b : Bool) (hb : decide (val xs = 0) = b) : (((r : Nat) : Int) == 0) = b := by
  rw [← hb, ← hr]
  have := nb_zero h.sm
  rw [Bool.eq_iff_iff]
  simp
  omega
theorem divisor_1 (s : Bool) (A : Option Addr) (n c : Nat) (B : Option Addr) (m d : Nat) (ys : List Nat) (k : Nat) (w : World) (h0 : val ys = 0) (h : Rd w B m d ys) (hm : m ≤ 1048576) (hk : 1 ≤ k) :
    Calls Tryz.prog 42 #[.agg #[.bool s, .slice A n c, .slice B m d]] w (GY w k 1) := by
  obtain ⟨r, hr⟩ : ∃ r, nb ys = r := ⟨_, rfl⟩
  have HR := hide hr
  have e0 := bits0 h hr true (by simpa using h0)
  clear hr h0
  have h_1 := h.alloc (EQ s A n c B m d)
  have bx_1 : Sq ((w).alloc (EQ s A n c B m d)) (w.heap.size) (.bool s) (.slice A n c) (.slice B m d) := by have h_ := Sq.new (w) (.bool s) (.slice A n c) (.slice B m d); exact h_
  have F1 := (Below.refl w.heap.size w).alloc (Nat.le_refl _) (EQ s A n c B m d)
  go_enter Tryz.func42, Tryz.ntmps42
  go_wp2_with fail
  refine (bits_calls _ _ _ ys _ r HR.out h_1 hm).mono ?_
  rintro e w' ⟨rfl, rfl⟩
  go_wp2_with fail
  refine (one_n _ k hk).mono ?_
  rintro e w2 ⟨A2, n2, c2, rfl, o, b2⟩
  have h_2 := h_1.below b2
  have bx_2 := bx_1.below b2 bx_1.lt
  have F2 := below_then F1 (Nat.le_refl _) b2
  have bx_u2 := bx_2.cell0
  have bx_v2 := bx_2.cell1
  have bx_w2 := bx_2.cell2
  go_wp2
  go_ret
  exact ⟨_, _, _, rfl, o, F2⟩
theorem divisor_g (s : Bool) (A : Option Addr) (n c : Nat) (B : Option Addr) (m d : Nat) (ys : List Nat) (w : World) (h0 : val ys ≠ 0) (h : Rd w B m d ys) (hm : m ≤ 1048576) :
    Calls Tryz.prog 42 #[.agg #[.bool s, .slice A n c, .slice B m d]] w fun e w' => e = .returned (.slice B m d) ∧ Below w.heap.size w w' := by
  obtain ⟨r, hr⟩ : ∃ r, nb ys = r := ⟨_, rfl⟩
  have HR := hide hr
  have e0 := bits0 h hr false (by simpa using h0)
  clear hr h0
  have h_1 := h.alloc (EQ s A n c B m d)
  have bx_1 : Sq ((w).alloc (EQ s A n c B m d)) (w.heap.size) (.bool s) (.slice A n c) (.slice B m d) := by have h_ := Sq.new (w) (.bool s) (.slice A n c) (.slice B m d); exact h_
  have F1 := (Below.refl w.heap.size w).alloc (Nat.le_refl _) (EQ s A n c B m d)
  go_enter Tryz.func42, Tryz.ntmps42
  go_wp2_with fail
  refine (bits_calls _ _ _ ys _ r HR.out h_1 hm).mono ?_
  rintro e w' ⟨rfl, rfl⟩
  go_wp2
  go_ret
  exact ⟨rfl, F1⟩
theorem divisor_n (s : Bool) (A : Option Addr) (n c : Nat) (B : Option Addr) (m d : Nat) (ys : List Nat) (k X : Nat) (w : World) (hX : rden ys = X) (h : Rd w B m d ys) (hm : m ≤ k) (hk : 1 ≤ k) (hK : k ≤ 1048576) :
    Calls Tryz.prog 42 #[.agg #[.bool s, .slice A n c, .slice B m d]] w (GN w k X) := by
  by_cases h0 : val ys = 0
  · have hX1 : X = 1 := by rw [← hX, rden, if_pos h0]
    subst hX1
    exact (divisor_1 s A n c B m d ys k w h0 h (by omega) hk).mono fun e w' ⟨A1, n1, c1, he, hy, hb⟩ => ⟨A1, n1, c1, he, hy.nz, hb⟩
  · refine (divisor_g s A n c B m d ys w h0 h (by omega)).mono ?_
    rintro e w' ⟨rfl, hb⟩
    exact ⟨_, _, _, rfl, ⟨hm, _, h.below hb, by rw [← hX, rden, if_neg h0]⟩, hb⟩
def GM (w : World) (s : Bool) (k X : Nat) (e : Ending) (w' : World) : Prop := ∃ A n c, e = .returned (.agg #[.bool s, .slice A n c]) ∧ Ny w' A n c k X ∧ Below w.heap.size w w'
theorem Ny.far {w : World} {A : Option Addr} {n c k X : Nat} (h : Ny w A n c k X) {g : Nat} {s0 : Bool} {A0 : Option Addr} {n0 c0 : Nat} (hs : Sb w g (.bool s0) (.slice A0 n0 c0)) (u0 u1 : Value) : Ny ((w.setCell ⟨g, 0, none⟩ u0).setCell ⟨g, 1, none⟩ u1) A n c k X :=
  ⟨h.1, h.2.storI hs u0 u1⟩
theorem multiple_n (s : Bool) (A : Option Addr) (n c : Nat) (B : Option Addr) (m d : Nat) (E : Option Addr) (l e k l' j X Y Z : Nat) (w : World) (hZ : X * Y = Z) (h : Nz w A n c k X) (h2 : Nz w E l e l' Y) (hj : k + l' ≤ j) (hJ : j ≤ 1048576) :
    Calls Tryz.prog 41 #[.agg #[.bool s, .slice A n c, .slice B m d], .slice E l e] w (GM w s j Z) := by
  have HZ := hide hZ
  clear hZ
  have h_1 := h.alloc (EQ s A n c B m d)
  have h2_1 := h2.alloc (EQ s A n c B m d)
  have bx_1 : Sq ((w).alloc (EQ s A n c B m d)) (w.heap.size) (.bool s) (.slice A n c) (.slice B m d) := by have h_ := Sq.new (w) (.bool s) (.slice A n c) (.slice B m d); exact h_
  have F1 := (Below.refl w.heap.size w).alloc (Nat.le_refl _) (EQ s A n c B m d)
  have h_2 := h_1.alloc E0
  have h2_2 := h2_1.alloc E0
  have bx_2 := bx_1.alloc E0
  have br_2 : Sb (((w).alloc (EQ s A n c B m d)).alloc E0) (w.heap.size + 1) (.bool false) (.slice none 0 0) := by have h_ := Sb.new ((w).alloc (EQ s A n c B m d)) (.bool false) (.slice none 0 0); simp only [World.size_alloc] at h_; exact h_
  have F2 := F1.alloc F1.size E0
  go_enter Tryz.func41, Tryz.ntmps41
  go_wp2_with fail
  have h_3 := h_2.drew
  have h2_3 := h2_2.drew
  have bx_3 := bx_2.drew
  have br_3 := br_2.drew
  have F3 := F2.drew
  go_region_held3 (fun w' => w'.cell? ⟨w.heap.size, 0, none⟩ = some (.bool s) ∧ w'.cell? ⟨w.heap.size, 1, none⟩ = some (.slice A n c) ∧ w'.cell? ⟨w.heap.size, 2, none⟩ = some (.slice B m d))
    (first
      | with_reducible exact ⟨bx_p.cell0, bx_p.cell1, bx_p.cell2⟩
      | with_reducible exact ⟨bx_4.cell0, bx_4.cell1, bx_4.cell2⟩
      | with_reducible exact ⟨bx_3.cell0, bx_3.cell1, bx_3.cell2⟩
      | fail)
    (first
      | (go_at_call 45; (with_reducible refine (mul_n _ _ _ _ _ _ _ _ j _ _ Z _ HZ.out h_3 h2_3 hj hJ).mono ?_); rintro e w4 ⟨A4, n4, c4, rfl, o, b4⟩; have h_4 := h_3.below b4; have h2_4 := h2_3.below b4; have bx_4 := bx_3.below b4 bx_3.lt; have br_4 := br_3.below b4 br_3.lt; have F4 := below_then F3 (Nat.le_refl _) b4; have br_g0 := br_4.cell0; have br_h0 := br_4.frozen 0; have br_g1 := br_4.cell1; have br_h1 := br_4.frozen 1; have bx_p := bx_4.pastI (g' := w.heap.size + 1) (u0 := .bool s) (u1 := .slice A4 n4 c4) (by omega))
      | fail)
  go_wp2_with fail
  refine bodyPost_ret (v := .agg #[.bool s, .slice A4 n4 c4]) (by simp [results, Tryz.results41, go_sem, (br_4.set0 (.bool s)).cell0, ((br_4.set0 (.bool s)).set1 (.slice A4 n4 c4)).cell1]) rfl ⟨_, _, _, rfl, o.far br_4 _ _, below_stor F4 (by omega)⟩
end Go.Proofs.YtnddhohjfjlaiaaGreatDoor
