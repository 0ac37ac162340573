/-
  Integers: the specification's Int, DivMod.
-/
import Derived.Test.YtefcpcekoihgjaaI6
namespace Go.Proofs.Ytefcpcekoihgjaa
open Go.RowKit
set_option linter.unusedVariables false
set_option linter.unusedSimpArgs false

theorem rint_int (s : Bool) (A : Option Addr) (n c : Nat) (z v : Int) (b : Bool) (w : World) (hv : i64Of z = (v, b)) (h : Iz w s A n c z) (hn : n ≤ 1048576) :
    Calls Try.prog 20 #[.agg #[.bool s, .slice A n c]] w (Asks w (.tuple #[.int .i64 v, .bool b])) := by
  obtain ⟨xs, h, hz⟩ := h
  have h1 := rd_alloc h (EI s A n c)
  have hu := u64_iff h.sm
  by_cases ht : tlen xs ≤ 2
  · have hu2 := hu.1 ht
    have hvb : u64Of xs = (val xs, true) := if_pos ht
    obtain ⟨x, hx⟩ : ∃ x, val xs = x := ⟨_, rfl⟩
    rw [hx] at hvb hu2
    cases s
    · have hz2 : z = x := by rw [← hz, ← hx]; rfl
      rcases Nat.lt_trichotomy x 9223372036854775808 with hcs | hcs | hcs
      · have d1 : decide ((9223372036854775808 : Int) < (x : Int)) = false := by simp; omega
        have d2 : ((x : Int) == 9223372036854775808) = false := by simp; omega
        obtain ⟨rfl, rfl⟩ := Prod.mk.inj ((if_pos (by omega)).symm.trans hv)
        subst hz2
        have E4 : wrap64 (x : Int) = x := by unfold wrap64; omega
        clear hu hu2 ht hx hz hv hcs
        go_enter Try.func20, Try.ntmps20
        go_wp2_with fail
        refine (ruint_calls _ _ _ _ _ _ _ hvb h1 hn).mono ?_
        rintro e w1 ⟨rfl, b1⟩
        obtain ⟨hB, ha⟩ := ent1 b1
        have a0 := ha.cell0
        go_wp2
        go_ret2
        exact ⟨congrArg (fun v => Ending.returned (.tuple #[.int .i64 v, .bool true])) E4, hB⟩
      · have d1 : decide ((9223372036854775808 : Int) < (x : Int)) = false := by simp; omega
        have d2 : ((x : Int) == 9223372036854775808) = true := by simp; omega
        obtain ⟨rfl, rfl⟩ := Prod.mk.inj ((if_neg (by omega)).symm.trans hv)


        clear hu hu2 ht hx hz hv hcs
        go_enter Try.func20, Try.ntmps20
        go_wp2_with fail
        refine (ruint_calls _ _ _ _ _ _ _ hvb h1 hn).mono ?_
        rintro e w1 ⟨rfl, b1⟩
        obtain ⟨hB, ha⟩ := ent1 b1
        have a0 := ha.cell0
        go_wp2
        go_ret2
        exact ⟨rfl, hB⟩
      · have d1 : decide ((9223372036854775808 : Int) < (x : Int)) = true := by simp; omega
        have d2 : ((x : Int) == 9223372036854775808) = false := by simp; omega
        obtain ⟨rfl, rfl⟩ := Prod.mk.inj ((if_neg (by omega)).symm.trans hv)


        clear hu hu2 ht hx hz hv hcs
        go_enter Try.func20, Try.ntmps20
        go_wp2_with fail
        refine (ruint_calls _ _ _ _ _ _ _ hvb h1 hn).mono ?_
        rintro e w1 ⟨rfl, b1⟩
        obtain ⟨hB, ha⟩ := ent1 b1
        have a0 := ha.cell0
        go_wp2
        go_ret2
        exact ⟨rfl, hB⟩
    · have hz2 : z = -(x : Int) := by rw [← hz, ← hx]; rfl
      rcases Nat.lt_trichotomy x 9223372036854775808 with hcs | hcs | hcs
      · have d1 : decide ((9223372036854775808 : Int) < (x : Int)) = false := by simp; omega
        have d2 : ((x : Int) == 9223372036854775808) = false := by simp; omega
        obtain ⟨rfl, rfl⟩ := Prod.mk.inj ((if_pos (by omega)).symm.trans hv)
        subst hz2
        have E4 : wrap64 (IntKind.u64.wrap (-(x : Int))) = -(x : Int) := by rw [IntKind.wrap_u64]; unfold wrap64; omega
        clear hu hu2 ht hx hz hv hcs
        go_enter Try.func20, Try.ntmps20
        go_wp2_with fail
        refine (ruint_calls _ _ _ _ _ _ _ hvb h1 hn).mono ?_
        rintro e w1 ⟨rfl, b1⟩
        obtain ⟨hB, ha⟩ := ent1 b1
        have a0 := ha.cell0
        go_wp2
        go_ret2
        exact ⟨congrArg (fun v => Ending.returned (.tuple #[.int .i64 v, .bool true])) E4, hB⟩
      · have d1 : decide ((9223372036854775808 : Int) < (x : Int)) = false := by simp; omega
        have d2 : ((x : Int) == 9223372036854775808) = true := by simp; omega
        obtain ⟨rfl, rfl⟩ := Prod.mk.inj ((if_pos (by omega)).symm.trans hv)
        subst hz2
        have E4 : wrap64 (IntKind.u64.wrap (-(x : Int))) = -(x : Int) := by rw [IntKind.wrap_u64]; unfold wrap64; omega
        clear hu hu2 ht hx hz hv hcs
        go_enter Try.func20, Try.ntmps20
        go_wp2_with fail
        refine (ruint_calls _ _ _ _ _ _ _ hvb h1 hn).mono ?_
        rintro e w1 ⟨rfl, b1⟩
        obtain ⟨hB, ha⟩ := ent1 b1
        have a0 := ha.cell0
        go_wp2
        go_ret2
        exact ⟨congrArg (fun v => Ending.returned (.tuple #[.int .i64 v, .bool true])) E4, hB⟩
      · have d1 : decide ((9223372036854775808 : Int) < (x : Int)) = true := by simp; omega
        have d2 : ((x : Int) == 9223372036854775808) = false := by simp; omega
        obtain ⟨rfl, rfl⟩ := Prod.mk.inj ((if_neg (by omega)).symm.trans hv)


        clear hu hu2 ht hx hz hv hcs
        go_enter Try.func20, Try.ntmps20
        go_wp2_with fail
        refine (ruint_calls _ _ _ _ _ _ _ hvb h1 hn).mono ?_
        rintro e w1 ⟨rfl, b1⟩
        obtain ⟨hB, ha⟩ := ent1 b1
        have a0 := ha.cell0
        go_wp2
        go_ret2
        exact ⟨rfl, hB⟩
  · have hvb : u64Of xs = (0, false) := if_neg ht
    have hu2 : ¬ val xs ≤ 18446744073709551615 := fun e => ht (hu.2 e)
    have hab := iv_abs s xs
    obtain ⟨rfl, rfl⟩ := Prod.mk.inj ((if_neg (by omega)).symm.trans hv)
    clear hu hu2 ht hz hv hab
    go_enter Try.func20, Try.ntmps20
    go_wp2_with fail
    refine (ruint_calls _ _ _ _ _ _ _ hvb h1 hn).mono ?_
    rintro e w1 ⟨rfl, b1⟩
    obtain ⟨hB, ha⟩ := ent1 b1
    go_wp2
    go_ret2
    exact ⟨rfl, hB⟩
theorem ediv_of {z y q r : Int} (h : q * y + r = z) (h0 : 0 ≤ r) (h1 : r < y.natAbs) : z / y = q ∧ z % y = r := by
  have hy : y ≠ 0 := by intro e; subst e; simp at h1; omega
  have hr : r / y = 0 := by
    rcases Int.lt_or_gt_of_ne hy with h2 | h2
    · rw [← Int.neg_neg y, Int.ediv_neg, Int.ediv_eq_zero_of_lt h0 (by omega)]; rfl
    · exact Int.ediv_eq_zero_of_lt h0 (by omega)
  have hq : z / y = q := by rw [← h, Int.add_comm, Int.add_mul_ediv_right _ _ hy, hr]; omega
  refine ⟨hq, ?_⟩
  rw [Int.emod_def, hq, ← h, Int.mul_comm y q]
  omega
theorem dm_plain {X Y : Nat} (s t : Bool) (hY : 0 < Y) (hs : s = false ∨ X % Y = 0) :
    (if (!s == t) = true then -((X / Y : Nat) : Int) else ((X / Y : Nat) : Int)) = (if s then -(X : Int) else X) / (if t then -(Y : Int) else Y) ∧ ((X % Y : Nat) : Int) = (if s then -(X : Int) else X) % (if t then -(Y : Int) else Y) := by
  have h1 := Nat.div_add_mod X Y
  have h2 := Nat.mod_lt X hY
  obtain ⟨q, hq⟩ : ∃ q, X / Y = q := ⟨_, rfl⟩
  obtain ⟨r, hr⟩ : ∃ r, X % Y = r := ⟨_, rfl⟩
  rw [hq, hr] at h1
  rw [hr] at h2
  rw [hq, hr]
  rw [hr] at hs
  have h3 : (q : Int) * (Y : Int) + r = X := by rw [← h1]; push_cast; rw [Int.mul_comm]
  have key := ediv_of (z := (if s then -(X : Int) else X)) (y := (if t then -(Y : Int) else Y)) (q := if (!s == t) = true then -(q : Int) else q) (r := r) (by
    cases s <;> cases t <;> simp [Int.neg_mul, Int.mul_neg] at hs ⊢ <;> omega) (by omega) (by cases t <;> simp <;> omega)
  exact ⟨key.1.symm, key.2.symm⟩
theorem dm_floor {X Y : Nat} (t : Bool) (hY : 0 < Y) (h0 : 0 < X % Y) :
    (if (!true == t) = true then -((X / Y + 1 : Nat) : Int) else ((X / Y + 1 : Nat) : Int)) = (-(X : Int)) / (if t then -(Y : Int) else Y) ∧ ((Y - X % Y : Nat) : Int) = (-(X : Int)) % (if t then -(Y : Int) else Y) := by
  have h1 := Nat.div_add_mod X Y
  have h2 := Nat.mod_lt X hY
  obtain ⟨q, hq⟩ : ∃ q, X / Y = q := ⟨_, rfl⟩
  obtain ⟨r, hr⟩ : ∃ r, X % Y = r := ⟨_, rfl⟩
  rw [hq, hr] at h1
  rw [hr] at h2 h0
  rw [hq, hr]
  have h3 : (q : Int) * (Y : Int) + r = X := by rw [← h1]; push_cast; rw [Int.mul_comm]
  have h4 : ((q + 1 : Nat) : Int) * (Y : Int) = (q : Int) * Y + Y := by push_cast; rw [Int.add_mul, Int.one_mul]
  have key := ediv_of (z := -(X : Int)) (y := (if t then -(Y : Int) else Y)) (q := if (!true == t) = true then -((q + 1 : Nat) : Int) else ((q + 1 : Nat) : Int)) (r := ((Y - r : Nat) : Int)) (by
    cases t
    · rw [if_pos (by decide), if_neg (by decide), Int.neg_mul, h4]; omega
    · rw [if_neg (by decide), if_pos rfl, Int.mul_neg, h4]; omega) (by omega) (by cases t <;> simp <;> omega)
  exact ⟨key.1.symm, key.2.symm⟩
end Go.Proofs.Ytefcpcekoihgjaa
