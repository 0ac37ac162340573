/-
  What package dyadic answers.
-/
import Derived.Test.YthiapkalmmgliaaDoorK18
import Derived.Test.YthiapkalmmgliaaDoorEh
import Derived.Test.YthiapkalmmgliaaDoorEj
import Derived.Test.YthiapkalmmgliaaDoorEm
namespace Go.Proofs.YthiapkalmmgliaaDoor
open Go.RowKit
set_option linter.unusedVariables false
set_option linter.unusedSimpArgs false

theorem add_range (s : Bool) (A : Option Addr) (n c : Nat) (e : Int) (t : Bool) (B : Option Addr) (m d : Nat) (x : Int) (p q : Rat) (w : World) (h : Cy w s A n c e p) (k : Cy w t B m d x q) (hn : n ≤ 3) (hm : m ≤ 3) (he : -200 ≤ e ∧ e ≤ 200) (hx : -200 ≤ x ∧ x ≤ 200) : -1048576 ≤ de (p + q) ∧ de (p + q) ≤ 1048576 := by
  have hp := h.val
  have hq := k.val
  have lX : dm p < pw 3 := by have := rd_lt h.1 hn; rwa [val_dg] at this
  have lY : dm q < pw 3 := by have := rd_lt k.1 hm; rwa [val_dg] at this
  obtain ⟨z, hz⟩ : ∃ z, min e x = z := ⟨_, rfl⟩
  obtain ⟨K, hK⟩ : ∃ K : Nat, e - z = (K : Int) := ⟨(e - z).toNat, by omega⟩
  obtain ⟨J, hJ⟩ : ∃ J : Nat, x - z = (J : Int) := ⟨(x - z).toNat, by omega⟩
  have hpP := mult_val s (dm p) K e z hK
  have hqQ := mult_val t (dm q) J x z hJ
  rw [hp] at hpP
  rw [hq] at hqQ
  have hsum := mult_add hpP hqQ
  have l1 := mult_lt lX (show K ≤ 400 by omega)
  have l2 := mult_lt lY (show J ≤ 400 by omega)
  have a1 := iv_abs s (dg (dm p * 2 ^ K))
  have a2 := iv_abs t (dg (dm q * 2 ^ J))
  rw [val_dg] at a1 a2
  obtain ⟨Z, hZ⟩ : ∃ Z, iv s (dg (dm p * 2 ^ K)) + iv t (dg (dm q * 2 ^ J)) = Z := ⟨_, rfl⟩
  rw [hZ] at hsum
  have a5 : pw 17 = 4294967296 * pw 16 := rfl
  have a6 : Z.natAbs < pw 17 := by omega
  rw [← dvl_int] at hsum
  by_cases h0 : Z.natAbs = 0
  · rw [hsum, h0, dvl_zero, de_zero]
    omega
  · obtain ⟨-, -, h3, -⟩ := dvl_parts (decide (Z < 0)) Z.natAbs z h0
    rw [pw_pow] at a6
    have := tw_lt a6 h0
    rw [hsum, h3]
    omega
theorem yadd_q (s : Bool) (A : Option Addr) (n c : Nat) (e : Int) (t : Bool) (B : Option Addr) (m d : Nat) (x : Int) (p q : Rat) (w : World) (h : Cy w s A n c e p) (k : Cy w t B m d x q) (hn : n ≤ 3) (hm : m ≤ 3) (he : -200 ≤ e ∧ e ≤ 200) (hx : -200 ≤ x ∧ x ≤ 200) (T : Tb w) : Calls Tryd.prog 35 #[.agg #[.bool s, .slice A n c, .int .i64 e], .agg #[.bool t, .slice B m d, .int .i64 x]] w (GDE w (p + q) 0) :=
  yadd_g s A n c e t B m d x p q w h k hn hm (by omega) (by omega) (by omega) (add_range s A n c e t B m d x p q w h k hn hm he hx) T
theorem ycmp_q (s : Bool) (A : Option Addr) (n c : Nat) (e : Int) (t : Bool) (B : Option Addr) (m d : Nat) (x : Int) (p q : Rat) (r : Int) (w : World) (hr : sz (p - q).num = r) (h : Cy w s A n c e p) (k : Cy w t B m d x q) (hn : n ≤ 3) (hm : m ≤ 3) (he : -200 ≤ e ∧ e ≤ 200) (hx : -200 ≤ x ∧ x ≤ 200) : Calls Tryd.prog 37 #[.agg #[.bool s, .slice A n c, .int .i64 e], .agg #[.bool t, .slice B m d, .int .i64 x]] w (Asks w (.int .i64 r)) :=
  ycmp_g s A n c e t B m d x p q w r hr h k hn hm (by omega) (by omega) (by omega)
theorem ymul_q (s : Bool) (A : Option Addr) (n c : Nat) (e : Int) (t : Bool) (B : Option Addr) (m d : Nat) (x : Int) (p q : Rat) (w : World) (h : Cy w s A n c e p) (k : Cy w t B m d x q) (hn : n ≤ 3) (hm : m ≤ 3) (he : -1048576 ≤ e ∧ e ≤ 1048576) (hx : -1048576 ≤ x ∧ x ≤ 1048576) (hr : -1048576 ≤ de (p * q) ∧ de (p * q) ≤ 1048576) (T : Tb w) : Calls Tryd.prog 36 #[.agg #[.bool s, .slice A n c, .int .i64 e], .agg #[.bool t, .slice B m d, .int .i64 x]] w (GDE w (p * q) 0) :=
  ymul_g s A n c e t B m d x p q w h k hn hm he hx hr T
theorem ymul_b (s : Bool) (A : Option Addr) (n c : Nat) (e : Int) (t : Bool) (B : Option Addr) (m d : Nat) (x : Int) (p q : Rat) (w : World) (h : Cy w s A n c e p) (k : Cy w t B m d x q) (hn : n ≤ 3) (hm : m ≤ 3) (he : -1048576 ≤ e ∧ e ≤ 1048576) (hx : -1048576 ≤ x ∧ x ≤ 1048576) (h0 : p * q ≠ 0) (hr : de (p * q) < -1048576 ∨ 1048576 < de (p * q)) (hr9 : de (p * q) ≤ 1000000000) (T : Tb w) : Calls Tryd.prog 36 #[.agg #[.bool s, .slice A n c, .int .i64 e], .agg #[.bool t, .slice B m d, .int .i64 x]] w (GDE w 0 2) :=
  ymul_x s A n c e t B m d x p q w h k hn hm he hx h0 hr T
theorem yadd2_q (s : Bool) (A : Option Addr) (n c : Nat) (e : Int) (p : Rat) (w : World) (h : Cy w s A n c e p) (hn : n ≤ 3) (he : -1048576 ≤ e ∧ e ≤ 1048576) (hr : -1048576 ≤ de (p + p) ∧ de (p + p) ≤ 1048576) (T : Tb w) : Calls Tryd.prog 35 #[.agg #[.bool s, .slice A n c, .int .i64 e], .agg #[.bool s, .slice A n c, .int .i64 e]] w (GDE w (p + p) 0) :=
  yadd_g s A n c e s A n c e p p w h h hn hn he he (by omega) hr T
theorem yadd2_b (s : Bool) (A : Option Addr) (n c : Nat) (e : Int) (p : Rat) (w : World) (h : Cy w s A n c e p) (h0 : p ≠ 0) (hn : n ≤ 3) (he : -1048576 ≤ e ∧ e ≤ 1048576) (h9 : p + p ≠ 0) (hr : de (p + p) < -1048576 ∨ 1048576 < de (p + p)) (hr9 : de (p + p) ≤ 1000000000) (T : Tb w) : Calls Tryd.prog 35 #[.agg #[.bool s, .slice A n c, .int .i64 e], .agg #[.bool s, .slice A n c, .int .i64 e]] w (GDE w 0 2) :=
  yadd_x s A n c e s A n c e p p w h h hn hn he he (by omega) h9 hr T
end Go.Proofs.YthiapkalmmgliaaDoor
