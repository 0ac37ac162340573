/-
  estimate.
-/
import Derived.Test.YtefcpcekoihgjaaW7
import Derived.Test.YtefcpcekoihgjaaN4
namespace Go.Proofs.Ytefcpcekoihgjaa
open Go.RowKit
set_option linter.unusedVariables false
set_option linter.unusedSimpArgs false

def EstRel (Q y1 t : Nat) (a b : Value) : Prop := ∃ q r : Nat, a = .int .u64 q ∧ b = .int .u64 r ∧ q ≤ 8589934592 ∧ r < 8589934592 ∧ Q ≤ q ∧ q * y1 + r = t
theorem est_calls (A B : Option Addr) (p c d : Nat) (rs ys : List Nat) (w : World) (h : Rd w A (p + 3) c rs) (h2 : Rd w B (p + 2) d ys) (hp : p ≤ 1048576) (hlt : val rs < 4294967296 * val ys) (hnm : 2147483648 ≤ lim ys (p + 1)) :
    Calls Try.prog 70 #[.slice A (p + 3) c, .slice B (p + 2) d] w fun e w' => ∃ q : Nat, e = .returned (.int .u64 (q : Int)) ∧ (∃ m, w' = w.drewN m) ∧ val rs / val ys ≤ q ∧ q ≤ val rs / val ys + 1 ∧ q < 4294967296 := by
  have hE := est_of h.sm h2.sm h.len h2.len hlt hnm
  obtain ⟨b1, o1, rfl, -, hc1⟩ := h.at_ (by omega)
  obtain ⟨b2, o2, rfl, -, hc2⟩ := h2.at_ (by omega)
  have r0 := hc1 p (by omega)
  have r1 := hc1 (p + 1) (by omega)
  have r2 := hc1 (p + 2) (by omega)
  have d0 := hc2 p (by omega)
  have d1 := hc2 (p + 1) (by omega)
  have hs := est_start hE
  generalize lim rs p = x0 at *
  generalize lim rs (p + 1) = x1 at *
  generalize lim rs (p + 2) = x2 at *
  generalize lim ys p = y0 at *
  generalize lim ys (p + 1) = y1 at *
  generalize val rs / val ys = Q at *
  have f1 := hE.f2
  have f2 := hE.fB
  have f3 := hE.sB
  have f4 := hE.a0
  have f5 := hE.a1
  have f6 := hE.a2
  have htop := or_lo f5 f6
  obtain ⟨t, ht⟩ : ∃ t, t = x1 + 4294967296 * x2 := ⟨_, rfl⟩
  have htb : t ≤ 18446744073709551615 := by omega
  rw [← ht] at htop hs
  obtain ⟨q0, hq0⟩ : ∃ q0, q0 = t / y1 := ⟨_, rfl⟩
  obtain ⟨r0', hr0⟩ : ∃ r0, r0 = t % y1 := ⟨_, rfl⟩
  have hq1 : (t : Int) / (y1 : Int) = (q0 : Int) := by rw [hq0]; simp
  have hr1 : (t : Int) % (y1 : Int) = (r0' : Int) := by rw [hr0]; simp
  have hrb : r0' < 4294967296 := by rw [hr0]; have := Nat.mod_lt t (show 0 < y1 by omega); omega
  have hy1 : ((y1 : Int) == 0) = false := by simp; omega
  rw [← hq0, ← hr0] at hs
  have hqb : q0 ≤ 8589934592 := hs.2.2
  have HE := hide hE
  have HS := hide hs
  have HT := hide ht
  clear hE hs ht hc1 hc2 h h2 hlt hq0 hr0
  go_enter Try.func70, Try.ntmps70
  go_wp2
  go_quiet (fail)
  go_wp2
  go_quiet (fail)
  go_wp2
  go_quiet (fail)
  go_wp2
  have HR1 := hide hr1
  clear r1 r2 d0 d1 htop hq1 hr1 hy1
  go_loop [9, 10] (fun a b => EstRel Q y1 t a b) (fun a _ => (intOf a).toNat)
  case atStart => exact ⟨q0, r0', rfl, congrArg _ HR1.out, hqb, by omega, HS.out.1, HS.out.2.1⟩
  case round =>
    obtain ⟨q, r, rfl, rfl, hq, hr, hi⟩ := hrel
    have HI := hide hi
    clear hi
    have hdec : (4294967296 ≤ q ∨ x0 + 4294967296 * r < q * y0) → Q ≤ q - 1 ∧ (q - 1) * y1 + (r + y1) = t ∧ 0 < q := fun hc => by
      have := est_dec HE.out HI.out.1 (by rw [← HT.out]; exact HI.out.2) hc
      rwa [← HT.out] at this
    have hfin : (4294967296 ≤ r ∨ (q < 4294967296 ∧ q * y0 ≤ x0 + 4294967296 * r)) → q < 4294967296 ∧ q ≤ Q + 1 := fun hc => est_fin HE.out HI.out.1 (by rw [← HT.out]; exact HI.out.2) hc
    have HD := hide hdec
    have HF := hide hfin
    clear hdec hfin
    by_cases c1 : 4294967296 ≤ r
    · have e1 : ((r : Int) / 4294967296 == 0) = false := by simp; omega
      have hf := HF.out (.inl c1)
      go_wp2
      go_ret
      exact ⟨q, rfl, ⟨_, rfl⟩, HI.out.1, hf.2, hf.1⟩
    · have e1 : ((r : Int) / 4294967296 == 0) = true := by simp; omega
      by_cases c2 : 4294967296 ≤ q
      · have e2 : ((q : Int) / 4294967296 != 0) = true := by simp; omega
        have hd := HD.out (.inl c2)
        have hq0 : 0 < q := hd.2.2
        have HD2 := hide hd
        clear hd
        go_wp2
        go_round
        case rel => exact ⟨q - 1, r + y1, by go_num, by go_num, by omega, by omega, HD2.out.1, HD2.out.2.1⟩
        case measure => simp [intOf]; omega
      · have e2 : ((q : Int) / 4294967296 != 0) = false := by simp; omega
        have hz := or_lo f4 (show r < 4294967296 by omega)
        obtain ⟨z, hzz⟩ : ∃ z, z = x0 + 4294967296 * r := ⟨_, rfl⟩
        rw [← hzz] at hz
        have hqs := mul_bound (show q < 4294967296 by omega) f3
        have hqs0 : (0 : Int) ≤ (q : Int) * (y0 : Int) := Int.mul_nonneg (by omega) (by omega)
        have hqs1 : (q : Int) * (y0 : Int) ≤ 18446744065119617025 := by
          have : ((q * y0 : Nat) : Int) = (q : Int) * (y0 : Int) := by simp
          omega
        by_cases c3 : z < q * y0
        · have hd := HD.out (.inr (by rw [← hzz]; exact c3))
          have hq0 : 0 < q := hd.2.2
          have e3 : (z : Int) < (q : Int) * (y0 : Int) := by
            have : ((q * y0 : Nat) : Int) = (q : Int) * (y0 : Int) := by simp
            omega
          have HD2 := hide hd
          clear hd hzz c3
          go_wp2
          go_round
          case rel => exact ⟨q - 1, r + y1, by go_num, by go_num, by omega, by omega, HD2.out.1, HD2.out.2.1⟩
          case measure => simp [intOf]; omega
        · have hf := HF.out (.inr ⟨by omega, by rw [← hzz]; omega⟩)
          have e3 : ¬ (z : Int) < (q : Int) * (y0 : Int) := by
            have : ((q * y0 : Nat) : Int) = (q : Int) * (y0 : Int) := by simp
            omega
          have e4 : decide ((z : Int) < (q : Int) * (y0 : Int)) = false := by simpa using e3
          have HF2 := hide hf
          clear hf hzz c3
          go_wp2
          go_ret
          exact ⟨q, rfl, ⟨_, rfl⟩, HI.out.1, HF2.out.2, HF2.out.1⟩
end Go.Proofs.Ytefcpcekoihgjaa
