/-
  What package dyadic calls: the table of math/bits, shifts, the first limb that is not 0.
-/
import Derived.Test.YtnddhohjfjlaiaaGreatDoorKC
import Derived.Lib.TrailingZeros
namespace Go.Proofs.YtnddhohjfjlaiaaGreatDoor
open Go.RowKit
set_option linter.unusedVariables false
set_option linter.unusedSimpArgs false

/-- The table that math/bits looks into lies as its initialiser lays it. -/
def Tb (w : World) : Prop := 0 < w.heap.size ∧ ∀ j, j < 32 → w.cell? ⟨0, j, none⟩ = some (.int .u8 ((Lib.deBruijn32tab.getD j 0 : Nat) : Int))
section
variable {w w' : World}
theorem Tb.below (h : Tb w) (hb : Below w.heap.size w w') : Tb w' := ⟨Nat.lt_of_lt_of_le h.1 hb.size, fun j hj => (hb.cell (p := ⟨0, j, none⟩) h.1).trans (h.2 j hj)⟩
theorem Tb.alloc (h : Tb w) (o : Obj) : Tb (w.alloc o) := h.below ((Below.refl _ _).alloc (Nat.le_refl _) _)
theorem Tb.drew (h : Tb w) : Tb w.drew := h.below (Below.refl _ _).drew
theorem Tb.far (h : Tb w) {g : Nat} (hg : 0 ≠ g) (i : Nat) (v : Value) : Tb (w.setCell ⟨g, i, none⟩ v) :=
  ⟨by simpa [World.setCell] using h.1, fun j hj => (World.cell?_of_block (Below.heap_setCell w _ v 0 hg)).trans (h.2 j hj)⟩
theorem Tb.other (h : Tb w) {g : Nat} {b : Bool} (hc : w.cell? ⟨g, 0, none⟩ = some (.bool b)) : 0 ≠ g := fun e => by
  subst e
  have := (h.2 0 (by omega)).symm.trans hc
  simp at this
theorem Tb.storI (h : Tb w) {g : Nat} {s0 : Bool} {B : Option Addr} {l d : Nat} (hs : Sb w g (.bool s0) (.slice B l d)) (u0 u1 : Value) : Tb ((w.setCell ⟨g, 0, none⟩ u0).setCell ⟨g, 1, none⟩ u1) :=
  (h.far (h.other hs.cell0) _ _).far (h.other hs.cell0) _ _
theorem Tb.storQ (h : Tb w) {g : Nat} {s0 : Bool} {B C : Option Addr} {l d l' d' : Nat} (hs : Sq w g (.bool s0) (.slice B l d) (.slice C l' d')) (u0 u1 u2 : Value) : Tb (((w.setCell ⟨g, 0, none⟩ u0).setCell ⟨g, 1, none⟩ u1).setCell ⟨g, 2, none⟩ u2) :=
  ((h.far (h.other hs.cell0) _ _).far (h.other hs.cell0) _ _).far (h.other hs.cell0) _ _
theorem Tb.storY (h : Tb w) {g : Nat} {s0 : Bool} {B : Option Addr} {l d : Nat} {x : Int} (hs : Sy w g (.bool s0) (.slice B l d) (.int .i64 x)) (u0 u1 u2 : Value) : Tb (((w.setCell ⟨g, 0, none⟩ u0).setCell ⟨g, 1, none⟩ u1).setCell ⟨g, 2, none⟩ u2) :=
  ((h.far (h.other hs.cell0) _ _).far (h.other hs.cell0) _ _).far (h.other hs.cell0) _ _
end
/-- A number behind which no error stands. -/
def GYE (w : World) (k X : Nat) (e : Ending) (w' : World) : Prop := ∃ A n c, e = .returned (.tuple #[.slice A n c, .int .i64 0]) ∧ Ny w' A n c k X ∧ Below w.heap.size w w'
def GYI (w : World) (k X : Nat) (z : Int) (e : Ending) (w' : World) : Prop := ∃ A n c, e = .returned (.tuple #[.slice A n c, .int .i64 z]) ∧ Ny w' A n c k X ∧ Below w.heap.size w w'
theorem shl_n (A : Option Addr) (n c k j X Y i : Nat) (z : Int) (w : World) (hz : z = (i : Int)) (hY : X * 2 ^ i = Y) (h : Nz w A n c k X) (hl : Y < pw j) (hk : k ≤ 1048576) (hi : i ≤ 1048576) :
    Calls Tryz.prog 32 #[.slice A n c, .int .i64 z] w (GYE w j Y) := by
  subst hz hY
  obtain ⟨h1, xs, hx, rfl⟩ := h
  refine (shl_ok A n c xs w i hx (by omega) hi).mono ?_
  rintro e w' ⟨A1, c1, he, hr, hb⟩
  exact ⟨A1, _, c1, he, ⟨dg_le hl, hr⟩, hb⟩
theorem shr_n (A : Option Addr) (n c k X Y i : Nat) (z : Int) (w : World) (hz : z = (i : Int)) (hY : X / 2 ^ i = Y) (h : Nz w A n c k X) (hk : k ≤ 1048576) (hi : i ≤ 1048576) :
    Calls Tryz.prog 97 #[.slice A n c, .int .i64 z] w (GYE w k Y) := by
  have hl := Nat.lt_of_le_of_lt (Nat.div_le_self X (2 ^ i)) h.lt
  subst hz hY
  obtain ⟨h1, xs, hx, rfl⟩ := h
  refine (shr_ok A n c xs w i hx (by omega) hi).mono ?_
  rintro e w' ⟨A1, c1, he, hr, hb⟩
  exact ⟨A1, _, c1, he, ⟨dg_le hl, hr⟩, hb⟩
theorem bits_n (A : Option Addr) (n c k X r : Nat) (w : World) (hr : bl X = r) (h : Nz w A n c k X) (hk : k ≤ 1048576) :
    Calls Tryz.prog 49 #[.slice A n c] w fun e w' => e = .returned (.int .i64 (r : Int)) ∧ w = w' := by
  obtain ⟨h1, xs, hx, rfl⟩ := h
  exact bits_calls A n c xs w r ((nb_bl hx.sm).trans hr) hx (by omega)
theorem u32_neg (x : Nat) (hx : x < 4294967296) (h0 : x ≠ 0) : -(x : Int) % 4294967296 = ((4294967296 - x : Nat) : Int) := by omega
theorem tz_key (x a : Nat) (hx : x < 4294967296) (h0 : x ≠ 0) (hlow : x &&& (4294967296 - x) = a) :
    bits .and .u32 (x : Int) (-(x : Int) % 4294967296) * 125613361 % 4294967296 / 134217728 = ((a * 125613361 % 4294967296 / 134217728 : Nat) : Int) := by
  rw [u32_neg x hx h0, u32_and_nat x _ hx (by omega), hlow]
  omega
/-- The zero bits at a limb's end. -/
theorem tz_calls (x k : Nat) (w : World) (hx : x < 4294967296) (h0 : x ≠ 0) (hk : Lib.ctz 32 x = k) (T : Tb w) :
    Calls Tryz.prog 96 #[.int .u32 (x : Int)] w fun e w' => e = .returned (.int .i64 (k : Int)) ∧ w = w' := by
  obtain ⟨hlow, hk2⟩ := Lib.lowest_bit 32 x h0 hx
  obtain ⟨hi, htab⟩ := Lib.deBruijn32_at _ hk2
  have hcell := T.2 _ hi
  rw [htab, hk] at hcell
  rw [hk] at hlow hk2 hi
  have hx0 : ((x : Int) == 0) = false := by simp; omega
  have key := tz_key x _ hx h0 hlow
  obtain ⟨idx, hidx⟩ : ∃ i, 2 ^ k * 125613361 % 4294967296 / 134217728 = i := ⟨_, rfl⟩
  rw [hidx] at key hi hcell
  clear hlow htab hidx T hk
  go_enter Tryz.func96, Tryz.ntmps96
  go_wp2_with (simp only [key])
  go_ret
  exact ⟨rfl, rfl⟩
/-- The function value of IndexFunc. -/
theorem cl_calls (x : Nat) (b : Bool) (w : World) (hb : ((x : Int) != 0) = b) : Calls Tryz.prog 95 #[.int .u32 (x : Int)] w fun e w' => e = .returned (.bool b) ∧ w = w' := by
  go_enter Tryz.func95, Tryz.ntmps95
  go_wp2
  go_ret
  exact ⟨rfl, rfl⟩
theorem Rd.drop {w : World} {b0 off n c k : Nat} {xs : List Nat} (h : Rd w (some ⟨b0, off, none⟩) n c xs) (hk : k ≤ n) : Rd w (some ⟨b0, off + k, none⟩) (n - k) (c - k) (xs.drop k) := by
  have h1 := h.len
  have h2 := h.cap
  refine ⟨by rw [List.length_drop, h1], h.sm.drop k, by omega, fun hn => ?_⟩
  obtain ⟨b, o, hA, hb, hc⟩ := h.at_ (by omega)
  cases hA
  refine ⟨b0, off + k, rfl, hb, fun j hj => ?_⟩
  have := hc (k + j) (by omega)
  rw [lim_drop, Nat.add_assoc]
  exact this
theorem idx_at (b0 off n c : Nat) (xs : List Nat) (f : Nat) (w : World) (h : Rd w (some ⟨b0, off, none⟩) n c xs) (hn : n ≤ 1048576) (hz : ∀ j, j < f → lim xs j = 0) (hf : f < n) (h0 : lim xs f ≠ 0) :
    Calls Tryz.prog 94 #[.slice (some ⟨b0, off, none⟩) n c, .func (.func 95) #[] #[]] w fun e w' => e = .returned (.int .i64 (f : Int)) ∧ w = w' := by
  have HZ := hide hz
  have hcap := h.cap
  clear hz
  go_enter Tryz.func94, Tryz.ntmps94
  go_wp2
  go_loop [5, 8] (fun _ k => ∃ j : Nat, j ≤ f ∧ k = .int .i64 j) (fun _ k => n - (intOf k).toNat)
  case atStart => exact ⟨0, Nat.zero_le _, rfl⟩
  case round =>
    obtain ⟨j, hj, rfl⟩ := hrel
    obtain ⟨b, o, hA, hb, hc⟩ := h.get (k := j) (by omega)
    cases hA
    have hl := h.sm.lim j
    have d0 : (j : Int) < (n : Int) := by omega
    rcases Nat.lt_or_ge j f with hlt | hge
    · have e0 : ((lim xs j : Int) != 0) = false := by rw [HZ.out j hlt]; rfl
      go_wp2_with fail
      refine (cl_calls _ false _ e0).mono ?_
      rintro e w' ⟨rfl, rfl⟩
      go_wp2
      go_round
      case rel => exact ⟨j + 1, by omega, by go_num⟩
      case measure => simp only [intOf]; omega
    · obtain rfl : j = f := by omega
      have e0 : ((lim xs j : Int) != 0) = true := by simp; omega
      go_wp2_with fail
      refine (cl_calls _ true _ e0).mono ?_
      rintro e w' ⟨rfl, rfl⟩
      go_wp2
      go_ret
      exact ⟨rfl, rfl⟩
theorem idx_no (b0 off n c : Nat) (xs : List Nat) (w : World) (h : Rd w (some ⟨b0, off, none⟩) n c xs) (hn : n ≤ 1048576) (hz : ∀ j, j < n → lim xs j = 0) :
    Calls Tryz.prog 94 #[.slice (some ⟨b0, off, none⟩) n c, .func (.func 95) #[] #[]] w fun e w' => e = .returned (.int .i64 (-1)) ∧ w = w' := by
  have HZ := hide hz
  have hcap := h.cap
  clear hz
  go_enter Tryz.func94, Tryz.ntmps94
  go_wp2
  go_loop [5, 8] (fun _ k => ∃ j : Nat, j ≤ n ∧ k = .int .i64 j) (fun _ k => n - (intOf k).toNat)
  case atStart => exact ⟨0, Nat.zero_le _, rfl⟩
  case round =>
    obtain ⟨j, hj, rfl⟩ := hrel
    by_cases hjn : j < n
    · obtain ⟨b, o, hA, hb, hc⟩ := h.get (k := j) (by omega)
      cases hA
      have hl := h.sm.lim j
      have d0 : (j : Int) < (n : Int) := by omega
      have e0 : ((lim xs j : Int) != 0) = false := by rw [HZ.out j hjn]; rfl
      go_wp2_with fail
      refine (cl_calls _ false _ e0).mono ?_
      rintro e w' ⟨rfl, rfl⟩
      go_wp2
      go_round
      case rel => exact ⟨j + 1, by omega, by go_num⟩
      case measure => simp only [intOf]; omega
    · have d0 : ¬ (j : Int) < (n : Int) := by omega
      go_wp2
      go_ret
      exact ⟨rfl, rfl⟩
theorem idx_nil (A : Option Addr) (c : Nat) (w : World) :
    Calls Tryz.prog 94 #[.slice A 0 c, .func (.func 95) #[] #[]] w fun e w' => e = .returned (.int .i64 (-1)) ∧ w = w' := by
  go_enter Tryz.func94, Tryz.ntmps94
  go_wp2
  go_loop [5, 8] (fun _ k => k = .int .i64 0) (fun _ k => 0)
  case atStart => rfl
  case round =>
    obtain rfl := hrel
    go_wp2
    go_ret
    exact ⟨rfl, rfl⟩
end Go.Proofs.YtnddhohjfjlaiaaGreatDoor
