/-
  The odd factor, the range of exponents.
-/
import Derived.Test.YtnddhohjfjlaiaaGreatDoorEa
namespace Go.Proofs.YtnddhohjfjlaiaaGreatDoor
open Go.RowKit
set_option linter.unusedVariables false
set_option linter.unusedSimpArgs false

/-- The factor of a power of 2 of a number whose first limbs are 0. -/
theorem odd_split {xs : List Nat} {f k : Nat} (hs : Sm xs) (hf : f < xs.length) (hz : ∀ j, j < f → lim xs j = 0) (h0 : lim xs f ≠ 0) (hk : Lib.ctz 32 (lim xs f) = k) :
    k < 32 ∧ tw (val xs) = 32 * f + k ∧ odp (val xs) = val (xs.drop f) / 2 ^ k := by
  have e1 : pv xs f = 0 := by rw [pv_congr (ys := []) (fun j hj => by rw [hz j hj]; rfl), pv_nil]
  have e2 := val_split xs f (by omega)
  rw [e1, Nat.zero_add, pw_pow] at e2
  have hx := hs.lim f
  obtain ⟨V, hV⟩ : ∃ V, val (xs.drop f) = lim xs f + 4294967296 * V := by
    rw [List.drop_eq_getElem_cons hf, ← lim_get hf]
    exact ⟨_, rfl⟩
  obtain ⟨m, hm, hk2⟩ := Lib.ctzFrom_spec 32 (lim xs f) (by omega) hx
  have e3 : Lib.ctzFrom 32 (lim xs f) = k := by rw [← hk, Lib.ctz, if_neg h0]
  rw [e3] at hm hk2
  refine ⟨hk2, ?_⟩
  obtain ⟨d, hd⟩ : ∃ d, 32 = k + (d + 1) := ⟨32 - k - 1, by omega⟩
  have e4 : (4294967296 : Nat) = 2 ^ k * 2 ^ (d + 1) := by rw [← Nat.pow_add, ← hd]
  have e5 : val (xs.drop f) = (2 * m + 1 + 2 ^ (d + 1) * V) * 2 ^ k := by
    rw [hV, e4, hm, Nat.add_mul, Nat.mul_comm (2 ^ k) (2 * m + 1), Nat.mul_assoc, Nat.mul_comm (2 ^ k)]
  have e6 : (2 * m + 1 + 2 ^ (d + 1) * V) % 2 = 1 := by rw [Nat.pow_succ, Nat.mul_comm _ 2, Nat.mul_assoc]; omega
  have e7 : val xs = (2 * m + 1 + 2 ^ (d + 1) * V) * 2 ^ (32 * f + k) := by
    rw [e2, e5, Nat.mul_comm, Nat.mul_assoc, ← Nat.pow_add, Nat.add_comm k]
  obtain ⟨t1, t2⟩ := tw_mul e6 (32 * f + k)
  rw [← e7] at t1 t2
  refine ⟨t1, ?_⟩
  rw [t2, e5, Nat.mul_div_cancel _ (Nat.two_pow_pos k)]
theorem first_limb {xs : List Nat} (h : val xs ≠ 0) : ∃ f, f < xs.length ∧ (∀ j, j < f → lim xs j = 0) ∧ lim xs f ≠ 0 := by
  induction xs with
  | nil => exact absurd rfl h
  | cons x l ih =>
    by_cases hx : x = 0
    · have h2 : val l ≠ 0 := fun e => h (by show x + 4294967296 * val l = 0; omega)
      obtain ⟨f, h3, h4, h5⟩ := ih h2
      refine ⟨f + 1, by simpa using h3, fun j hj => ?_, by rw [lim_cons_succ]; exact h5⟩
      cases j with
      | zero => exact hx
      | succ j => rw [lim_cons_succ]; exact h4 j (by omega)
    · exact ⟨0, by simp, fun j hj => absurd hj (Nat.not_lt_zero _), hx⟩
theorem ny_zero (w : World) (k : Nat) : Ny w none 0 0 k 0 := ⟨Nat.zero_le _, Rd.empty _ _ _⟩
theorem Nz.any {w : World} {A : Option Addr} {n c k X : Nat} (h : Nz w A n c k X) : n ≤ k := h.1
theorem odd_zero (A : Option Addr) (n c k : Nat) (w : World) (h : Nz w A n c k 0) (hk : k ≤ 1000000) :
    Calls Tryz.prog 77 #[.slice A n c] w (GYI w k 0 0) := by
  obtain ⟨h1, xs, hx, hv⟩ := h
  have hz := tlen_zero (tlen_zero_iff.2 hv)
  have hn : n ≤ 1048576 := by omega
  by_cases h0 : n = 0
  · subst h0
    clear hz hx hv
    go_enter Tryz.func77, Tryz.ntmps77
    go_wp2_with fail
    refine (idx_nil A c _).mono ?_
    rintro e w' ⟨rfl, rfl⟩
    go_wp2
    go_ret2
    exact ⟨none, 0, 0, rfl, ny_zero _ _, Below.refl _ _⟩
  · obtain ⟨b0, off, rfl, -, -⟩ := hx.get (k := 0) (by omega)
    have HZ := hide hz
    clear hz hv
    go_enter Tryz.func77, Tryz.ntmps77
    go_wp2_with fail
    refine (idx_no b0 off n c xs _ hx hn (fun j _ => HZ.out j)).mono ?_
    rintro e w' ⟨rfl, rfl⟩
    go_wp2
    go_ret2
    exact ⟨none, 0, 0, rfl, ny_zero _ _, Below.refl _ _⟩
/-- The odd factor and the exponent of the other one. -/
theorem odd_n (A : Option Addr) (n c k X O z : Nat) (w : World) (hO : odp X = O) (hz : tw X = z) (h : Nz w A n c k X) (hk : k ≤ 1000000) (T : Tb w) :
    Calls Tryz.prog 77 #[.slice A n c] w (GYI w k O (z : Int)) := by
  by_cases hX : X = 0
  · subst hX
    rw [← hO, ← hz]
    exact odd_zero A n c k w h hk
  obtain ⟨h1, xs, hx, hv⟩ := h
  rw [← hv] at hX
  obtain ⟨f, hf, hj, h0⟩ := first_limb hX
  obtain ⟨y, hy⟩ : ∃ y, Lib.ctz 32 (lim xs f) = y := ⟨_, rfl⟩
  obtain ⟨hy2, ht, ho⟩ := odd_split hx.sm hf hj h0 hy
  have hlen := hx.len
  have hcap := hx.cap
  have hl := hx.sm.lim f
  obtain ⟨b0, off, hA, hb0, hc⟩ := hx.get (k := f) (by omega)
  subst hA
  have hn : n ≤ 1048576 := by omega
  have hfn : f < n := by omega
  have hr := hx.drop (k := f) (by omega)
  have hr2 : Nz w (some ⟨b0, off + f, none⟩) (n - f) (c - f) (n - f) (val (xs.drop f)) := ⟨Nat.le_refl _, _, hr, rfl⟩
  have hle : odp (val xs) < pw k := Nat.lt_of_le_of_lt (odp_le _) (rd_lt hx h1)
  have HO := hide (show val (xs.drop f) / 2 ^ y = O by rw [← ho, hv, hO])
  have HZ := hide (show z = 32 * f + y by rw [← hz, ← hv, ht])
  have HJ := hide hj
  have H0 := hide h0
  have HY := hide hy
  have HP := hide (show O < pw k by rw [← hO, ← hv]; exact hle)
  clear hX hv hO hz hj h0 hy ht ho hr hle hlen hf
  go_enter Tryz.func77, Tryz.ntmps77
  go_wp2_with fail
  refine (idx_at b0 off n c xs f _ hx hn HJ.out hfn H0.out).mono ?_
  rintro e w' ⟨rfl, rfl⟩
  go_wp2_with fail
  refine (tz_calls _ y _ hl H0.out HY.out T).mono ?_
  rintro e w' ⟨rfl, rfl⟩
  go_wp2_with fail
  refine (shr_n _ _ _ _ _ O y _ _ rfl HO.out hr2 (by omega) (by omega)).mono ?_
  rintro e w1 ⟨A1, n1, c1, rfl, r1, b1⟩
  go_wp2
  go_ret2
  refine ⟨A1, n1, c1, ?_, ⟨dg_le HP.out |> fun h => by rw [r1.len] at h; exact h, r1.2⟩, b1⟩
  rw [HZ.out]
  simp
/-- The range of exponents. -/
def inr (e : Int) : Bool := decide (-1048576 ≤ e) && decide (e ≤ 1048576)
theorem inr_iff {e : Int} : inr e = true ↔ -1048576 ≤ e ∧ e ≤ 1048576 := by simp [inr]
theorem inr_calls (e : Int) (b : Bool) (w : World) (hb : inr e = b) : Calls Tryz.prog 78 #[.int .i64 e] w fun x w' => x = .returned (.bool b) ∧ w = w' := by
  subst hb
  unfold inr
  by_cases h1 : -1048576 ≤ e
  · by_cases h2 : e ≤ 1048576
    · have d1 : decide (-1048576 ≤ e) = true := by simpa using h1
      have d2 : decide (e ≤ 1048576) = true := by simpa using h2
      rw [d1, d2]
      go_enter Tryz.func78, Tryz.ntmps78
      go_wp2
      go_ret
      exact ⟨rfl, rfl⟩
    · have d1 : decide (-1048576 ≤ e) = true := by simpa using h1
      have d2 : decide (e ≤ 1048576) = false := by simpa using h2
      rw [d1, d2]
      go_enter Tryz.func78, Tryz.ntmps78
      go_wp2
      go_ret
      exact ⟨rfl, rfl⟩
  · have d1 : decide (-1048576 ≤ e) = false := by simpa using h1
    rw [d1]
    go_enter Tryz.func78, Tryz.ntmps78
    go_wp2
    go_ret
    exact ⟨rfl, rfl⟩
end Go.Proofs.YtnddhohjfjlaiaaGreatDoor
