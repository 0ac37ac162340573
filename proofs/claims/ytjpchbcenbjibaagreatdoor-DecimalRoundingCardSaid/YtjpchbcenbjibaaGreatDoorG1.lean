/-
  The walks of DecimalText and DecimalParse.
-/
import Derived.Test.YtjpchbcenbjibaaGreatDoorL5
namespace Go.Proofs.YtjpchbcenbjibaaGreatDoor
open Go.RowKit
set_option linter.unusedVariables false
set_option linter.unusedSimpArgs false

theorem cq_ext {w w' : World} {s : Bool} {A B : Option Addr} {n c m d : Nat} {xs ys : List Nat} (hx : Rd w A n c xs) (hy : Rd w B m d ys) (hx' : Rd w' A n c xs) (hy' : Rd w' B m d ys) (h : Cq w' s A n c B m d (rv s xs ys)) (hb : xs = dg (rv s xs ys).num.natAbs) (hc : ys = qd (rv s xs ys)) : Cq w s A n c B m d (rv s xs ys) := by
  refine ⟨?_, ?_, h.2.2⟩
  · rw [← hb]; exact hx
  · rw [← hc]; exact hy
/-- A value is canonical: a fact of its sign and its limbs alone. -/
def isC (s : Bool) (xs ys : List Nat) : Bool := (s == decide ((rv s xs ys).num < 0)) && decide (xs = dg (rv s xs ys).num.natAbs) && decide (ys = qd (rv s xs ys))
theorem cq_of {w : World} {s : Bool} {A B : Option Addr} {n c m d : Nat} {xs ys : List Nat} (hx : Rd w A n c xs) (hy : Rd w B m d ys) (h : isC s xs ys = true) : Cq w s A n c B m d (rv s xs ys) := by
  simp only [isC, Bool.and_eq_true, beq_iff_eq, decide_eq_true_eq] at h
  exact ⟨h.1.2 ▸ hx, h.2 ▸ hy, h.1.1⟩
theorem fair_not (s : Bool) (A : Option Addr) (n c : Nat) (B : Option Addr) (m d : Nat) (xs ys : List Nat) (w : World) (hx : Rd w A n c xs) (hy : Rd w B m d ys) (h : ¬ (n ≤ 8 ∧ m ≤ 8 ∧ isC s xs ys = true)) : Calls Tryz.prog 7 #[.agg #[.bool s, .slice A n c, .slice B m d]] w (Asks w (.bool false)) := by
  by_cases hn : n ≤ 8
  · have d1 : decide ((n : Int) ≤ 8) = true := by simp; omega
    by_cases hm : m ≤ 8
    · have d2 : decide ((m : Int) ≤ 8) = true := by simp; omega
      obtain ⟨q, hq⟩ : ∃ q, rv s xs ys = q := ⟨_, rfl⟩
      have hI : Iq w s A n c B m d q := ⟨xs, ys, hx, hy, hq⟩
      have hs := hI.size hn hm (by omega)
      have HV := hide (show ((s == decide (q.num < 0)) && decide (xs = dg q.num.natAbs) && decide (ys = qd q)) = false by
        rw [← hq]
        rcases Bool.eq_false_or_eq_true (isC s xs ys) with e | e
        · exact absurd ⟨hn, hm, e⟩ h
        · exact e)
      have HQ := hide hq
      have n1 : n ≤ 16384 := by omega
      have n2 : m ≤ 16384 := by omega
      have k1 : 8 ≤ 16384 := by omega
      have s1 : q.num.natAbs < pw 8 := hs.1
      have s2 : q.den < pw 8 := hs.2
      clear hq h hs hI
      have hx_1 := hx.alloc (EQ s A n c B m d)
      have hy_1 := hy.alloc (EQ s A n c B m d)
      have bx_1 : Sq ((w).alloc (EQ s A n c B m d)) (w.heap.size) (.bool s) (.slice A n c) (.slice B m d) := by have h_ := Sq.new (w) (.bool s) (.slice A n c) (.slice B m d); exact h_
      have F1 := (Below.refl w.heap.size w).alloc (Nat.le_refl _) (EQ s A n c B m d)
      go_enter Tryz.func7, Tryz.ntmps7
      go_wp2_with fail
      refine (rvalid_q _ _ _ _ _ _ _ _ _ q false _ HV.out HQ.out hx_1 hy_1 n1 n2 8 k1 s1 s2).mono ?_
      rintro e w2 ⟨rfl, b2⟩
      have hx_2 := hx_1.below b2
      have hy_2 := hy_1.below b2
      have bx_2 := bx_1.below b2 bx_1.lt
      have F2 := below_then F1 (Nat.le_refl _) b2
      have bx_u2 := bx_2.cell0
      have bx_v2 := bx_2.cell1
      have bx_w2 := bx_2.cell2
      go_wp2
      go_ret
      exact ⟨rfl, F2⟩
    · have d2 : decide ((m : Int) ≤ 8) = false := by simp; omega
      clear h
      have bx_1 : Sq ((w).alloc (EQ s A n c B m d)) (w.heap.size) (.bool s) (.slice A n c) (.slice B m d) := by have h_ := Sq.new (w) (.bool s) (.slice A n c) (.slice B m d); exact h_
      have F1 := (Below.refl w.heap.size w).alloc (Nat.le_refl _) (EQ s A n c B m d)
      go_enter Tryz.func7, Tryz.ntmps7
      go_wp2
      go_ret
      exact ⟨rfl, F1⟩
  · have d1 : decide ((n : Int) ≤ 8) = false := by simp; omega
    clear h
    have bx_1 : Sq ((w).alloc (EQ s A n c B m d)) (w.heap.size) (.bool s) (.slice A n c) (.slice B m d) := by have h_ := Sq.new (w) (.bool s) (.slice A n c) (.slice B m d); exact h_
    have F1 := (Below.refl w.heap.size w).alloc (Nat.le_refl _) (EQ s A n c B m d)
    go_enter Tryz.func7, Tryz.ntmps7
    go_wp2
    go_ret
    exact ⟨rfl, F1⟩
theorem rfixed_at (s : Bool) (A : Option Addr) (n c : Nat) (B : Option Addr) (m d : Nat) (q : Rat) (K p : Nat) (P : Int) (L : List UInt8) (w : World) (hP : P = (p : Int)) (hL : ffix q p = L) (h : Cq w s A n c B m d q) (hs : Qs K q) (hK : K ≤ 1000) (hK1 : 1 ≤ K) (hp : p ≤ 4000) :
    Calls Tryz.prog 9 #[.agg #[.bool s, .slice A n c, .slice B m d], .int .i64 P] w (Asks w (.tuple #[.string (bs L), .int .i64 0])) := by
  subst hP hL
  exact rfixed_q s A n c B m d q K p w h hs hK hK1 hp
theorem parse_qs (l : List UInt8) (K : Nat) (hl : l.length + 1 ≤ K) : Qs K (pparse l).1 := by
  have h := pparse_size l
  have h1 := ten_lt_pw l.length
  have h2 := pw_mono hl
  exact ⟨by omega, by omega⟩
end Go.Proofs.YtjpchbcenbjibaaGreatDoor
