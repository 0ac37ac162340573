/-
  subMultiple.
-/
import Derived.Test.YtefcpcekoihgjaaW6
import Derived.Test.YtefcpcekoihgjaaN4
import Derived.Deep.RegionWith
namespace Go.Proofs.Ytefcpcekoihgjaa
open Go.RowKit
set_option linter.unusedVariables false
set_option linter.unusedSimpArgs false

theorem u32_less {s p : Nat} (hs : s < 4294967296) (hp : p < 4294967296) : ∃ v e : Nat, IntKind.u32.wrap ((s : Int) - (p : Int)) = (v : Int) ∧ v < 4294967296 ∧ v + p = s + 4294967296 * e ∧ e = (if s < p then 1 else 0) := by
  rw [IntKind.wrap_u32]
  by_cases h : s < p
  · exact ⟨s + 4294967296 - p, 1, by omega, by omega, by omega, by rw [if_pos h]⟩
  · exact ⟨s - p, 0, by omega, by omega, by omega, by rw [if_neg h]⟩

def SubPost (w : World) (g o m : Nat) (S ys : List Nat) (q : Nat) (neg : Bool) (e : Ending) (w' : World) : Prop :=
  ∃ T : List Nat, e = .returned (.bool neg) ∧ w.grownBy w' (some g) ∧ Blk w' g (arr T) ∧ Win S T o (m + 1) ∧ pv (T.drop o) (m + 1) + q * val ys = pv (S.drop o) (m + 1) + pw (m + 1) * (if neg = true then 1 else 0)

theorem sm_calls (g o m cs d : Nat) (B : Option Addr) (S ys : List Nat) (q : Nat) (w : World) (neg : Bool) (hb : Blk w g (arr S)) (hs : Sm S) (ho : o + (m + 1) ≤ S.length) (hcs : m + 1 ≤ cs) (h2 : Rd w B m d ys) (ha : Away B m g)
    (hq : q < 4294967296) (hS : S.length ≤ 4194304) (hneg : decide (pv (S.drop o) (m + 1) < q * val ys) = neg) :
    Calls Try.prog 71 #[.slice (some ⟨g, o, none⟩) (m + 1) cs, .slice B m d, .int .u64 (q : Int)] w (SubPost w g o m S ys q neg) := by
  have HN := hide hneg
  clear hneg
  go_enter Try.func71, Try.ntmps71
  go_wp2
  go_loopw [8, 17] (fun cy i wr => ∃ (k cc : Nat) (T : List Nat), k ≤ m ∧ i = .int .i64 k ∧ cy = .int .u64 cc ∧ cc ≤ 4294967295 ∧ w.grownBy wr (some g) ∧ Blk wr g (arr T) ∧ Hid (SmInv S T ys o q k cc)) (fun _ i _ => m - (intOf i).toNat)
  case atStart => exact ⟨0, 0, S, by omega, rfl, rfl, by omega, World.grownBy.refl _ _, hb, sm_start S ys o q hs⟩
  case round =>
    obtain ⟨k, cc, T, hk, rfl, rfl, hcc, hg, hbl, HI⟩ := hrel
    by_cases hkm : k < m
    · have hok : o + k < T.length := by have := HI.out.1.1; omega
      have hbc : wr.cell? ⟨g, o + k, none⟩ = some (.int .u32 (lim T (o + k) : Nat)) := blk_cell hbl hok
      have hbf := hbl.frozen (o + k)
      have hsT := HI.out.1.2.1.lim (o + k)
      have hy := h2.sm.lim k
      obtain ⟨t, ht⟩ : ∃ t, t = cc + q * lim ys k := ⟨_, rfl⟩
      have ht1 : (cc : Int) + (q : Int) * (lim ys k : Int) = (t : Int) := by rw [ht]; simp
      obtain ⟨w1, w2, w3⟩ := sm_word hsT (show cc < 4294967296 by omega) hq hy ht
      have hxy := mul_bound hq hy
      have hxy0 : (0 : Int) ≤ (q : Int) * (lim ys k : Int) := Int.mul_nonneg (by omega) (by omega)
      have hxy1 : (q : Int) * (lim ys k : Int) ≤ 18446744065119617025 := by
        have : ((q * lim ys k : Nat) : Int) = (q : Int) * (lim ys k : Int) := by simp
        omega
      obtain ⟨v, e, hv1, hv2, hv3, hv4⟩ := u32_less hsT (show t % 4294967296 < 4294967296 by omega)
      have hv5 : IntKind.u32.wrap ((lim T (o + k) : Int) - (t : Int) % 4294967296) = (v : Int) := by rw [← hv1]; simp
      obtain ⟨b, off, hA, -, hc⟩ := (h2.grown hg ha).get hkm
      subst hA
      by_cases hlt : lim T (o + k) < t % 4294967296
      · rw [if_pos hlt] at hv4
        subst hv4
        have HS := hide (sm_step (by omega) ht hv2 (show v + t % 4294967296 + 4294967296 * (t / 4294967296) + 0 = lim T (o + k) + 4294967296 * (t / 4294967296 + 1) by omega) HI.out)
        have hl2 : (lim T (o + k) : Int) < (t : Int) % 4294967296 := by omega
        have w4 := w2 hlt
        clear ht hv1 hv3 hlt w2
        go_wp2
        go_roundw
        case rel => exact ⟨k + 1, t / 4294967296 + 1, _, by omega, by go_num, by go_num, by omega, grown_set hg _ _, blk_set hbl _ v, HS⟩
        case measure => simp [intOf]; omega
      · rw [if_neg hlt] at hv4
        subst hv4
        have HS := hide (sm_step (by omega) ht hv2 (show v + t % 4294967296 + 4294967296 * (t / 4294967296) + 0 = lim T (o + k) + 4294967296 * (t / 4294967296) by omega) HI.out)
        have hl2 : ¬ (lim T (o + k) : Int) < (t : Int) % 4294967296 := by omega
        have hv6 : (lim T (o + k) : Int) - (t : Int) % 4294967296 = (v : Int) := by omega
        clear ht hv1 hv3 hlt w2
        go_wp2
        go_roundw
        case rel => exact ⟨k + 1, t / 4294967296, _, by omega, by go_num, by go_num, by omega, grown_set hg _ _, blk_set hbl _ v, HS⟩
        case measure => simp [intOf]; omega
    · obtain rfl : m = k := by omega
      have hok : o + m < T.length := by have := HI.out.1.1; omega
      have hbc : wr.cell? ⟨g, o + m, none⟩ = some (.int .u32 (lim T (o + m) : Nat)) := blk_cell hbl hok
      have hbf := hbl.frozen (o + m)
      have hsT := HI.out.1.2.1.lim (o + m)
      obtain ⟨v, e, hv1, hv2, hv3, hv4⟩ := u32_less hsT (show cc < 4294967296 by omega)
      have hend := sm_end (v := v) (e := e) ho h2.len hv2 hv3 HI.out
      have hneg2 : neg = decide (lim T (o + m) < cc) := by
        rw [← HN.out]
        have hw := win_lt hend.1 (m + 1)
        have h0 := hend.2
        by_cases hlt : lim T (o + m) < cc
        · rw [if_pos hlt] at hv4
          subst hv4
          simp only [hlt, decide_true, decide_eq_true_eq]
          omega
        · rw [if_neg hlt] at hv4
          subst hv4
          simp only [hlt, decide_false, decide_eq_false_iff_not]
          omega
      have hfin : SubPost w g o m S ys q neg (.returned (.bool neg)) (wr.setCell ⟨g, o + m, none⟩ (.int .u32 (v : Int))) := by
        refine ⟨T.set (o + m) v, rfl, grown_set hg _ _, blk_set hbl _ v, hend.1, ?_⟩
        rw [hend.2, hv4, hneg2]
        simp
      have HF := hide hfin
      have HN2 := hide hneg2
      clear hend hneg2 hfin
      by_cases hlt : lim T (o + m) < cc
      · have hn : neg = true := by rw [HN2.out]; simpa using hlt
        subst hn
        have hl2 : (lim T (o + m) : Int) < (cc : Int) := by omega
        clear hv3 hv4
        go_wp2
        go_ret
        exact HF.out
      · have hn : neg = false := by rw [HN2.out]; simpa using hlt
        subst hn
        have hl2 : ¬ (lim T (o + m) : Int) < (cc : Int) := by omega
        have hd : decide ((lim T (o + m) : Int) < (cc : Int)) = false := by simpa using hl2
        have hv6 : (lim T (o + m) : Int) - (cc : Int) = (v : Int) := by rw [if_neg hlt] at hv4; omega
        clear hv3 hv4
        go_wp2
        go_ret
        exact HF.out

def AbPost (w : World) (g o m : Nat) (S ys : List Nat) (e : Ending) (w' : World) : Prop :=
  ∃ (T : List Nat) (x : Nat), e = .returned (.tuple #[]) ∧ w.grownBy w' (some g) ∧ Blk w' g (arr T) ∧ Win S T o (m + 1) ∧ pv (T.drop o) (m + 1) + pw (m + 1) * x = pv (S.drop o) (m + 1) + val ys
theorem u32_plus {s p : Nat} (hs : s < 4294967296) (hp : p < 4294967296) : ∃ v x : Nat, IntKind.u32.wrap ((s : Int) + (p : Int)) = (v : Int) ∧ v < 4294967296 ∧ v + 4294967296 * x = s + p := by
  rw [IntKind.wrap_u32]
  exact ⟨(s + p) % 4294967296, (s + p) / 4294967296, by omega, by omega, by omega⟩
end Go.Proofs.Ytefcpcekoihgjaa
