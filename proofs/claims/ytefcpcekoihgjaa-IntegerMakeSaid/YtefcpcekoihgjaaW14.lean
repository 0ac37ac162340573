/-
  quotientLimb.
-/
import Derived.Test.YtefcpcekoihgjaaW11
import Derived.Test.YtefcpcekoihgjaaW13
namespace Go.Proofs.Ytefcpcekoihgjaa
open Go.RowKit
set_option linter.unusedVariables false
set_option linter.unusedSimpArgs false

theorem win_trans {S T U : List Nat} {o k : Nat} (h : Win S T o k) (h' : Win T U o k) : Win S U o k :=
  ⟨h'.1.trans h.1, h'.2.1, fun j hj => (h'.2.2 j hj).trans (h.2.2 j hj)⟩
def QlPost (w : World) (g o p : Nat) (S ys : List Nat) (e : Ending) (w' : World) : Prop :=
  ∃ T : List Nat, e = .returned (.int .u32 (pv (S.drop o) (p + 3) / val ys : Nat)) ∧ w.grownBy w' (some g) ∧ Blk w' g (arr T) ∧ Win S T o (p + 3) ∧ pv (T.drop o) (p + 3) = pv (S.drop o) (p + 3) % val ys
theorem ql_none {R D q a : Nat} (hD : 0 < D) (hq : q = R / D) (h : a + q * D = R) : a = R % D := by
  subst hq
  have := Nat.div_add_mod R D
  rw [Nat.mul_comm] at this
  omega
theorem ql_back {R D q a b W x : Nat} (hD : 0 < D) (hDW : D < W) (hb : b < W) (hq : q = R / D + 1) (h : a + q * D = R + W) (h2 : b + W * x = a + D) : b = R % D := by
  subst hq
  have h3 := Nat.div_add_mod R D
  have h4 := Nat.mod_lt R hD
  rw [Nat.add_mul, Nat.one_mul, Nat.mul_comm] at h
  match x, h2 with
  | 0, h2 => rw [Nat.mul_zero] at h2; omega
  | 1, h2 => rw [Nat.mul_one] at h2; omega
  | x + 2, h2 =>
    rw [Nat.mul_add] at h2
    have := Nat.zero_le (W * x)
    omega
theorem drewN_grown {w w' : World} {k : Nat} {r : Option Nat} (h : (w.drewN k).grownBy w' r) : w.grownBy w' r := ⟨h.os, h.tape, h.output, h.size, h.block⟩
theorem grown_then {a b c : World} {g : Nat} (h : a.grownBy b (some g)) (k : b.grownBy c (some g)) : a.grownBy c (some g) :=
  ⟨k.os.trans h.os, k.tape.trans h.tape, k.output.trans h.output, Nat.le_trans h.size k.size, fun i hi hne => (k.block i (Nat.lt_of_lt_of_le hi h.size) hne).trans (h.block i hi hne)⟩

theorem ql_calls (g o p cs d : Nat) (B : Option Addr) (S ys : List Nat) (w : World) (hb : Blk w g (arr S)) (hs : Sm S) (ho : o + (p + 3) ≤ S.length) (hcs : p + 3 ≤ cs) (h2 : Rd w B (p + 2) d ys) (ha : Away B (p + 2) g)
    (hlt : pv (S.drop o) (p + 3) < 4294967296 * val ys) (hnm : 2147483648 ≤ lim ys (p + 1)) (hS : S.length ≤ 1048576) :
    Calls Try.prog 68 #[.slice (some ⟨g, o, none⟩) (p + 3) cs, .slice B (p + 2) d] w (QlPost w g o p S ys) := by
  have hD : 0 < val ys := by
    rcases Nat.eq_zero_or_pos (val ys) with h | h
    · rw [h] at hlt; omega
    · exact h
  have hDW : val ys < pw (p + 2 + 1) := by
    have h1 := val_lt h2.sm
    rw [h2.len] at h1
    exact Nat.lt_of_lt_of_le h1 (pw_mono (by omega))
  have hr := blk_rd hb hs (o := o) (n := p + 3) (c := cs) ho hcs
  have hest := est_calls _ B p cs d _ ys w hr h2 (by omega) hlt hnm
  have hp : p ≤ 1048576 := by omega
  have HEST := hide hest
  have HD := hide (And.intro hD hDW)
  clear hest hlt hr hD hDW
  go_enter Try.func68, Try.ntmps68
  go_wp2_with fail
  refine (unhide HEST).mono ?_
  rintro e w' ⟨q, rfl, ⟨m, rfl⟩, hq1, hq2, hq3⟩
  have hq1' : pv (S.drop o) (p + 3) / val ys ≤ q := hq1
  have hq2' : q ≤ pv (S.drop o) (p + 3) / val ys + 1 := hq2
  have hdm := Nat.div_add_mod (pv (S.drop o) (p + 3)) (val ys)
  have hml := Nat.mod_lt (pv (S.drop o) (p + 3)) HD.out.1
  by_cases hq : q = pv (S.drop o) (p + 3) / val ys
  · have hneg : decide (pv (S.drop o) (p + 2 + 1) < q * val ys) = false := by
      simp only [decide_eq_false_iff_not]
      rw [hq, Nat.mul_comm]
      show ¬ pv (S.drop o) (p + 3) < _
      omega
    have hsm := sm_calls g o (p + 2) cs d B S ys q (w.drewN m) false hb hs ho hcs (h2.below (below_drewN (Below.refl _ _) _)) ha hq3 (by omega) hneg
    have HSM := hide hsm
    have HQ := hide hq
    clear hsm hneg hdm hml hq1 hq2 hq1' hq2' hq
    go_wp2_with fail
    refine (unhide HSM).mono ?_
    rintro e w' ⟨T, rfl, hg, hbl, hwin, hv⟩
    go_wp2
    go_ret
    refine ⟨T, ret_int (by rw [HQ.out]), drewN_grown hg, hbl, hwin, ql_none HD.out.1 HQ.out (by simpa using hv)⟩
  · have hqq : q = pv (S.drop o) (p + 3) / val ys + 1 := by omega
    have hneg : decide (pv (S.drop o) (p + 2 + 1) < q * val ys) = true := by
      simp only [decide_eq_true_eq]
      rw [hqq, Nat.add_mul, Nat.one_mul, Nat.mul_comm]
      show pv (S.drop o) (p + 3) < _
      omega
    have hsm := sm_calls g o (p + 2) cs d B S ys q (w.drewN m) true hb hs ho hcs (h2.below (below_drewN (Below.refl _ _) _)) ha hq3 (by omega) hneg
    have HSM := hide hsm
    have HQ := hide hqq
    have hq0 : 1 ≤ q := by rw [hqq]; exact Nat.le_add_left 1 _
    clear hsm hneg hdm hml hq1 hq2 hq1' hq2' hq hqq
    go_wp2_with fail
    refine (unhide HSM).mono ?_
    rintro e w' ⟨T, rfl, hg, hbl, hwin, hv⟩
    have hab := ab_calls g o (p + 2) cs d B T ys w' hbl hwin.2.1 (by rw [hwin.1]; exact ho) hcs ((h2.below (below_drewN (Below.refl _ _) _)).grown hg ha) ha (by rw [hwin.1]; omega)
    have HAB := hide hab
    have HV := hide hv
    clear hab hv
    go_wp2_with fail
    refine (unhide HAB).mono ?_
    rintro e w2 ⟨U, x, rfl, hg2, hbl2, hwin2, hv2⟩
    have HV2 := hide hv2
    clear hv2
    go_wp2
    go_ret
    refine ⟨U, ret_int ?_, grown_then (drewN_grown hg) hg2, hbl2, win_trans hwin hwin2, ql_back HD.out.1 HD.out.2 (win_lt hwin2 _) HQ.out (by simpa using HV.out) HV2.out⟩
    have := HQ.out
    generalize pv (S.drop o) (p + 3) / val ys = Q at this ⊢
    omega
end Go.Proofs.Ytefcpcekoihgjaa
