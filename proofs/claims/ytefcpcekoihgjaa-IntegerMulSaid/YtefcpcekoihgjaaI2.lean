/-
  Integers: Neg, Same, Valid, Sign, and the specification's.
-/
import Derived.Test.YtefcpcekoihgjaaI1
namespace Go.Proofs.Ytefcpcekoihgjaa
open Go.RowKit
set_option linter.unusedVariables false
set_option linter.unusedSimpArgs false

theorem Iz.neg {w : World} {s : Bool} {A : Option Addr} {n c : Nat} {z : Int} (h : Iz w s A n c z) : Iz w (!s) A n c (-z) := by
  obtain ⟨xs, h, rfl⟩ := h
  refine ⟨xs, h, ?_⟩
  cases s <;> simp [iv]

theorem neg_int (s : Bool) (A : Option Addr) (n c : Nat) (z : Int) (w : World) (h : Iz w s A n c z) (hn : n ≤ 1048576) :
    Calls Try.prog 27 #[.agg #[.bool s, .slice A n c]] w (GI w (-z)) := by
  have h1 := ((h.alloc (.cells #[.bool s, .slice A n c] 25)).alloc (.cells #[.bool false, .slice none 0 0] 25)).neg
  go_enter Try.func27, Try.ntmps27
  go_wp2_with fail
  refine (make_int _ _ _ _ _ _ h1 hn).mono ?_
  rintro e w1 ⟨s1, A1, n1, c1, rfl, hc, hb1⟩
  obtain ⟨hB, hp, hs⟩ := ent2 hb1
  have k0 := hs.cell0
  have k1 := hs.cell1
  have k2 := hs.frozen 0
  have k3 := hs.frozen 1
  go_wp2_with fail
  refine bodyPost_ret (v := .agg #[.bool s1, .slice A1 n1 c1]) (by simp [results, Try.results27, go_sem, (hs.set0 (.bool s1)).cell0, ((hs.set0 (.bool s1)).set1 (.slice A1 n1 c1)).cell1]) rfl (gi_end hB (by omega) hs hc)
theorem rneg_int (s : Bool) (A : Option Addr) (n c : Nat) (z : Int) (w : World) (h : Iz w s A n c z) (hn : n ≤ 1048576) :
    Calls Try.prog 34 #[.agg #[.bool s, .slice A n c]] w (GI w (-z)) := by
  have h1 := ((h.alloc (.cells #[.bool s, .slice A n c] 25)).alloc (.cells #[.bool false, .slice none 0 0] 25)).neg
  go_enter Try.func34, Try.ntmps34
  go_wp2_with fail
  refine (rmake_int _ _ _ _ _ _ h1 hn).mono ?_
  rintro e w1 ⟨s1, A1, n1, c1, rfl, hc, hb1⟩
  obtain ⟨hB, hp, hs⟩ := ent2 hb1
  have k0 := hs.cell0
  have k1 := hs.cell1
  have k2 := hs.frozen 0
  have k3 := hs.frozen 1
  go_wp2_with fail
  refine bodyPost_ret (v := .agg #[.bool s1, .slice A1 n1 c1]) (by simp [results, Try.results34, go_sem, (hs.set0 (.bool s1)).cell0, ((hs.set0 (.bool s1)).set1 (.slice A1 n1 c1)).cell1]) rfl (gi_end hB (by omega) hs hc)

/-- What a call hands back that only asks. -/
def Asks (w : World) (v : Value) (e : Ending) (w' : World) : Prop := e = .returned v ∧ Below w.heap.size w w'

theorem same_int (s t : Bool) (A B : Option Addr) (n m c d : Nat) (z : Int) (w : World) (h : Cz w s A n c z) (k : Cz w t B m d z) (hn : n ≤ 1048576) :
    Calls Try.prog 12 #[.agg #[.bool s, .slice A n c], .agg #[.bool t, .slice B m d]] w (Asks w (.bool true)) := by
  have e1 : t = s := by rw [h.2, k.2]
  have e2 : m = n := by rw [← h.1.len, ← k.1.len]
  subst e1 e2
  have h1 := (h.alloc (.cells #[.bool t, .slice A m c] 25)).alloc (.cells #[.bool t, .slice B m d] 25)
  have k1 := (k.alloc (.cells #[.bool t, .slice A m c] 25)).alloc (.cells #[.bool t, .slice B m d] 25)
  go_enter Try.func12, Try.ntmps12
  go_wp2_with fail
  refine (same_b _ _ _ _ _ _ _ h1.1 k1.1 hn).mono ?_
  rintro e w1 ⟨rfl, hb1⟩
  obtain ⟨hB, hp, hs⟩ := ent2 hb1
  go_wp2
  go_ret
  exact ⟨rfl, hB⟩

theorem ret_bool {a b : Bool} (h : a = b) : Ending.returned (.bool a) = .returned (.bool b) := by rw [h]
theorem valid_int (s : Bool) (A : Option Addr) (n c : Nat) (xs : List Nat) (w : World) (b : Bool) (hb : (decide (tlen xs = n) && (!s || decide (0 < n))) = b) (h : Rd w A n c xs) (hn : n ≤ 1048576) :
    Calls Try.prog 14 #[.agg #[.bool s, .slice A n c]] w (Asks w (.bool b)) := by
  have h1 := rd_alloc h (.cells #[.bool s, .slice A n c] 25)
  obtain ⟨b1, hb1⟩ : ∃ b1, decide (tlen xs = n) = b1 := ⟨_, rfl⟩
  rw [hb1] at hb
  have HB := hide hb
  have HB1 := hide hb1
  clear hb hb1
  cases s <;> cases b1
  all_goals
    go_enter Try.func14, Try.ntmps14
    go_wp2_with fail
    refine (valid_calls _ _ _ _ _ h1 hn _ HB1.out).mono ?_
    rintro e w1 ⟨rfl, rfl⟩
    go_wp2
    go_ret
    exact ⟨ret_bool (by simpa using HB.out), (Below.refl _ _).alloc (Nat.le_refl _) _⟩
theorem rvalid_int (s : Bool) (A : Option Addr) (n c : Nat) (xs : List Nat) (w : World) (b : Bool) (hb : (decide (tlen xs = n) && (!s || decide (0 < n))) = b) (h : Rd w A n c xs) (hn : n ≤ 1048576) :
    Calls Try.prog 15 #[.agg #[.bool s, .slice A n c]] w (Asks w (.bool b)) := by
  have h1 := rd_alloc h (.cells #[.bool s, .slice A n c] 25)
  obtain ⟨b1, hb1⟩ : ∃ b1, decide (tlen xs = n) = b1 := ⟨_, rfl⟩
  rw [hb1] at hb
  have HB := hide hb
  have HB1 := hide hb1
  clear hb hb1
  cases s <;> cases b1
  all_goals
    go_enter Try.func15, Try.ntmps15
    go_wp2_with fail
    refine (rvalid_calls _ _ _ _ _ h1 hn _ HB1.out).mono ?_
    rintro e w1 ⟨rfl, rfl⟩
    go_wp2
    all_goals
      go_ret
      refine ⟨ret_bool ?_, (Below.refl _ _).alloc (Nat.le_refl _) _⟩
      rw [← HB.out]
      (try simp) <;> (try omega)
theorem Cz.valid {w : World} {s : Bool} {A : Option Addr} {n c : Nat} {z : Int} (h : Cz w s A n c z) : (decide (tlen (dg z.natAbs) = n) && (!s || decide (0 < n))) = true := by
  have e1 := h.1.len
  have e2 : z.natAbs = 0 ↔ n = 0 := by rw [← e1, List.length_eq_zero_iff]; exact dg_nil_iff.symm
  rw [tlen_dg, e1, h.2]
  simp
  omega
/-- The sign of a number. -/
def sz (z : Int) : Int := if z = 0 then 0 else if z < 0 then -1 else 1
theorem nb_zero {xs : List Nat} (hs : Sm xs) : nb xs = 0 ↔ val xs = 0 := by
  rw [← tlen_zero_iff]
  unfold nb
  by_cases h : tlen xs = 0
  · simp [h]
  · rw [if_neg h]
    have := tlen_top h
    constructor
    · intro h2
      exfalso
      have h3 : Lib.bitLen (lim xs (tlen xs - 1)) = 0 := by omega
      exact this (by
        rcases Nat.eq_zero_or_pos (lim xs (tlen xs - 1)) with h4 | h4
        · exact h4
        · have h5 := hs.lim (tlen xs - 1)
          have := Lib.bitLen_half (lim xs (tlen xs - 1)) (by omega) (by omega)
          omega)
    · intro h2; exact absurd h2 h
theorem sign_int (s : Bool) (A : Option Addr) (n c : Nat) (z r : Int) (w : World) (hr : sz z = r) (h : Iz w s A n c z) (hn : n ≤ 1048576) :
    Calls Try.prog 16 #[.agg #[.bool s, .slice A n c]] w (Asks w (.int .i64 r)) := by
  obtain ⟨xs, h, hz⟩ := h
  have h1 := rd_alloc h (.cells #[.bool s, .slice A n c] 25)
  have ha : z.natAbs = val xs := by rw [← hz, iv_abs]
  have hsg : z < 0 ↔ s = true ∧ 0 < val xs := by
    have := iv_neg s xs
    rw [hz, Bool.eq_iff_iff] at this
    simpa using this
  obtain ⟨b, hb⟩ : ∃ b, nb xs = b := ⟨_, rfl⟩
  have hb0 : b = 0 ↔ z = 0 := by rw [← hb, nb_zero h.sm]; omega
  have HB := hide hb
  have HR := hide hr
  clear hb hr
  by_cases h0 : z = 0
  · have e0 : (((b : Nat) : Int) == 0) = true := by simp; exact hb0.2 h0
    have er : r = 0 := by rw [← HR.out, sz, if_pos h0]
    subst er
    clear hb0 hsg ha hz h0 HR
    go_enter Try.func16, Try.ntmps16
    go_wp2_with fail
    refine (bits_calls _ _ _ _ _ b HB.out h1 hn).mono ?_
    rintro e w1 ⟨rfl, rfl⟩
    go_wp2
    go_ret
    exact ⟨rfl, (Below.refl _ _).alloc (Nat.le_refl _) _⟩
  · have e0 : (((b : Nat) : Int) == 0) = false := by simp; intro e; exact h0 (hb0.1 e)
    have er : r = if s then -1 else 1 := by
      rw [← HR.out, sz, if_neg h0]
      have : 0 < val xs := by omega
      cases s <;> simp at hsg <;> simp <;> omega
    subst er
    clear hb0 hsg ha hz h0 HR
    cases s
    all_goals
      go_enter Try.func16, Try.ntmps16
      go_wp2_with fail
      refine (bits_calls _ _ _ _ _ b HB.out h1 hn).mono ?_
      rintro e w1 ⟨rfl, rfl⟩
      go_wp2
      go_ret
      exact ⟨rfl, (Below.refl _ _).alloc (Nat.le_refl _) _⟩
end Go.Proofs.Ytefcpcekoihgjaa
