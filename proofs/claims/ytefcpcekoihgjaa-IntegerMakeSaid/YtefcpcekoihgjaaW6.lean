/-
  addMultiple and Mul.
-/
import Derived.Test.YtefcpcekoihgjaaW4
namespace Go.Proofs.Ytefcpcekoihgjaa
open Go.RowKit
set_option linter.unusedVariables false
set_option linter.unusedSimpArgs false

theorem grown_set {w wr : World} {g : Nat} (h : w.grownBy wr (some g)) (i : Nat) (u : Value) : w.grownBy (wr.setCell ⟨g, i, none⟩ u) (some g) :=
  ⟨h.os, h.tape, h.output, by simpa [World.setCell] using h.size, fun k hk hne => (Below.heap_setCell wr ⟨g, i, none⟩ u k (fun e => hne (by rw [e]))).trans (h.block k hk hne)⟩

theorem am_calls (g o m cs d : Nat) (B : Option Addr) (S ys : List Nat) (x : Nat) (w : World) (hb : Blk w g (arr S)) (hs : Sm S) (ho : o + m ≤ S.length) (hcs : m ≤ cs) (h2 : Rd w B m d ys) (ha : Away B m g)
    (hx : x < 4294967296) (hS : S.length ≤ 4194304) :
    Calls Try.prog 61 #[.slice (some ⟨g, o, none⟩) m cs, .slice B m d, .int .u32 (x : Int)] w fun e w' => ∃ (cc : Nat) (T : List Nat), e = .returned (.int .u32 (cc : Int)) ∧ cc < 4294967296 ∧ w.grownBy w' (some g) ∧ Blk w' g (arr T) ∧ AmInv S T ys o x m cc := by
  go_enter Try.func61, Try.ntmps61
  go_wp2
  go_loopw [7, 12] (fun cy i wr => ∃ (k cc : Nat) (T : List Nat), k ≤ m ∧ i = .int .i64 k ∧ cy = .int .u64 cc ∧ cc ≤ 4294967295 ∧ w.grownBy wr (some g) ∧ Blk wr g (arr T) ∧ Hid (AmInv S T ys o x k cc)) (fun _ i _ => m - (intOf i).toNat)
  case atStart => exact ⟨0, 0, S, by omega, rfl, rfl, by omega, World.grownBy.refl _ _, hb, am_start S ys o x hs⟩
  case round =>
    obtain ⟨k, cc, T, hk, rfl, rfl, hcc, hg, hbl, HI⟩ := hrel
    by_cases hkm : k < m
    · have hok : o + k < T.length := by have := HI.out.1; omega
      have hbc : wr.cell? ⟨g, o + k, none⟩ = some (.int .u32 (lim T (o + k) : Nat)) := blk_cell hbl hok
      have hbf := hbl.frozen (o + k)
      have hsT := HI.out.2.1.lim (o + k)
      have hy := h2.sm.lim k
      have hxy := mul_bound hx hy
      have hxy0 : (0 : Int) ≤ (x : Int) * (lim ys k : Int) := Int.mul_nonneg (by omega) (by omega)
      have hxy1 : (x : Int) * (lim ys k : Int) ≤ 18446744065119617025 := by have : ((x * lim ys k : Nat) : Int) = (x : Int) * (lim ys k : Int) := by simp
                                                                            omega
      obtain ⟨b, off, hA, _, hc⟩ := (h2.grown hg ha).get hkm
      subst hA
      go_wp2
      go_roundw
      case rel =>
        refine ⟨k + 1, (cc + (x * lim ys k + lim T (o + k))) / 4294967296, _, by omega, by go_num, congrArg _ ?_, ?_, grown_set hg _ _, ?_, am_step (by omega) HI.out⟩
        · simp
        · omega
        · have := blk_set hbl (o + k) ((cc + (x * lim ys k + lim T (o + k))) % 4294967296)
          rwa [show (((cc + (x * lim ys k + lim T (o + k))) % 4294967296 : Nat) : Int) = ((cc : Int) + ((x : Int) * (lim ys k : Int) + (lim T (o + k) : Int))) % 4294967296 from by simp] at this
      case measure => simp [intOf]; omega
    · obtain rfl : m = k := by omega
      go_wp2
      go_ret
      exact ⟨cc, T, rfl, by omega, hg, hbl, HI.out⟩

theorem mul_calls_le (A B : Option Addr) (n m c d : Nat) (xs ys : List Nat) (w : World) (h : Rd w A n c xs) (h2 : Rd w B m d ys) (hn : n ≤ 1048576) (hm : m ≤ 1048576) (hle : tlen xs ≤ tlen ys) :
    Calls Try.prog 51 #[.slice A n c, .slice B m d] w (Gives w (dg (val xs * val ys))) := by
  have hn4 : n ≤ 4194304 := by omega
  have hm4 : m ≤ 4194304 := by omega
  have ht1 : tlen xs ≤ 1048576 := by have := tlen_le xs; have := h.len; omega
  have ht2 : tlen ys ≤ 1048576 := by have := tlen_le ys; have := h2.len; omega
  have hmk := fun W => run_mk 23 (.inr rfl) (tlen xs + tlen ys) ((tlen xs : Int) + (tlen ys : Int)) (by omega) (by omega) W
  have hd : decide (tlen ys < tlen xs) = false := by simp; omega
  have HV := hide (And.intro (val_trim h.sm) (val_trim h2.sm))
  go_enter Try.func51, Try.ntmps51
  go_wp2_with (first
      | (go_at_call 56; (with_reducible refine (trim_calls A n c xs _ h hn4).mono ?_); rintro e w' ⟨A1, c1, rfl, rfl, hr1, _⟩)
      | (go_at_call 56; (with_reducible refine (trim_calls B m d ys _ h2 hm4).mono ?_); rintro e w' ⟨A2, c2, rfl, rfl, hr2, _⟩))
  go_loopw [27] (fun i wr => ∃ (k : Nat) (P : List Nat), k ≤ tlen xs ∧ i = .int .i64 k ∧ Below w.heap.size w wr ∧ Blk wr w.heap.size (arr P) ∧ Hid (MulInv P (xs.take (tlen xs)) (ys.take (tlen ys)) (tlen xs) (tlen ys) k)) (fun i _ => tlen xs - (intOf i).toNat)
  case atStart => exact ⟨0, _, by omega, rfl, (Below.refl _ _).alloc (Nat.le_refl _) _, Blk.new _ _, mul_start _ _ _ _⟩
  case round =>
    obtain ⟨k, P, hk, rfl, hb, hbl, HI⟩ := hrel
    by_cases hkn : k < tlen xs
    · have hx := hr1.sm.lim k
      have hPl : P.length = tlen xs + tlen ys := HI.out.1
      have HPL := hide hPl
      clear hPl
      have hrB := hr2.below hb
      have haw : Away A2 (tlen ys) w.heap.size := fun hp ad had => by
        obtain ⟨b2, off2, hA2, hb2, _⟩ := hr2.at_ hp
        rw [hA2] at had
        injection had with had
        subst had
        exact Nat.ne_of_lt hb2
      obtain ⟨b, off, hA, _, hc⟩ := (hr1.below hb).get hkn
      subst hA
      have hcall := am_calls w.heap.size k (tlen ys) (tlen xs + tlen ys - k) c2 A2 P _ (lim (xs.take (tlen xs)) k) wr hbl HI.out.2.1 (by rw [HPL.out]; omega) (by omega) hrB haw hx (by rw [HPL.out]; omega)
      have HC := hide hcall
      clear hcall
      go_wp2_with fail
      refine (unhide HC).mono ?_
      rintro e w' ⟨cc, T, rfl, hcc, hg, hbl2, HAM⟩
      have HM := hide (mul_step hkn hr2.len hcc HI.out HAM)
      have hT : T.length = tlen xs + tlen ys := HAM.1.trans HPL.out
      have hcell : w'.cell? ⟨w.heap.size, k + tlen ys, none⟩ = some (.int .u32 (lim T (k + tlen ys) : Nat)) := blk_cell hbl2 (by omega)
      have hfr := hbl2.frozen (k + tlen ys)
      have hb2 : Below w.heap.size w w' := hb.grown hg hb.size (fun g hg => by injection hg with hg; omega)
      have HT := hide hT
      clear hT HAM hc
      go_wp2
      go_roundw
      case rel => exact ⟨k + 1, _, by omega, by go_num, hb2.setCell (Nat.le_refl _) _, blk_set hbl2 _ cc, HM⟩
      case measure => simp [intOf]; omega
    · obtain rfl : k = tlen xs := by omega
      have HE := hide (mul_end hr1.len HI.out)
      have hr := blk_rd0 (c := tlen xs + tlen ys) hbl HI.out.2.1 HI.out.1 (by omega)
      go_wp2_with (go_at_call 56; refine (trim_calls _ _ _ _ _ hr (by omega)).mono ?_; rintro e w' ⟨A1, c1, rfl, rfl, hr3, _⟩)
      go_ret
      exact gives_trim HI.out.2.1 (by rw [HE.out, HV.out.1, HV.out.2]) hr3 hb

theorem mul_calls_gt (A B : Option Addr) (n m c d : Nat) (xs ys : List Nat) (w : World) (h : Rd w A n c xs) (h2 : Rd w B m d ys) (hn : n ≤ 1048576) (hm : m ≤ 1048576) (hle : tlen xs < tlen ys) :
    Calls Try.prog 51 #[.slice B m d, .slice A n c] w (Gives w (dg (val xs * val ys))) := by
  have hn4 : n ≤ 4194304 := by omega
  have hm4 : m ≤ 4194304 := by omega
  have ht1 : tlen xs ≤ 1048576 := by have := tlen_le xs; have := h.len; omega
  have ht2 : tlen ys ≤ 1048576 := by have := tlen_le ys; have := h2.len; omega
  have hmk := fun W => run_mk 23 (.inr rfl) (tlen xs + tlen ys) ((tlen xs : Int) + (tlen ys : Int)) (by omega) (by omega) W
  have hd : decide (tlen xs < tlen ys) = true := by simp; omega
  have HV := hide (And.intro (val_trim h.sm) (val_trim h2.sm))
  go_enter Try.func51, Try.ntmps51
  go_wp2_with (first
      | (go_at_call 56; (with_reducible refine (trim_calls A n c xs _ h hn4).mono ?_); rintro e w' ⟨A1, c1, rfl, rfl, hr1, _⟩)
      | (go_at_call 56; (with_reducible refine (trim_calls B m d ys _ h2 hm4).mono ?_); rintro e w' ⟨A2, c2, rfl, rfl, hr2, _⟩))
  go_loopw [27] (fun i wr => ∃ (k : Nat) (P : List Nat), k ≤ tlen xs ∧ i = .int .i64 k ∧ Below w.heap.size w wr ∧ Blk wr w.heap.size (arr P) ∧ Hid (MulInv P (xs.take (tlen xs)) (ys.take (tlen ys)) (tlen xs) (tlen ys) k)) (fun i _ => tlen xs - (intOf i).toNat)
  case atStart => exact ⟨0, _, by omega, rfl, (Below.refl _ _).alloc (Nat.le_refl _) _, Blk.new _ _, mul_start _ _ _ _⟩
  case round =>
    obtain ⟨k, P, hk, rfl, hb, hbl, HI⟩ := hrel
    by_cases hkn : k < tlen xs
    · have hx := hr1.sm.lim k
      have hPl : P.length = tlen xs + tlen ys := HI.out.1
      have HPL := hide hPl
      clear hPl
      have hrB := hr2.below hb
      have haw : Away A2 (tlen ys) w.heap.size := fun hp ad had => by
        obtain ⟨b2, off2, hA2, hb2, _⟩ := hr2.at_ hp
        rw [hA2] at had
        injection had with had
        subst had
        exact Nat.ne_of_lt hb2
      obtain ⟨b, off, hA, _, hc⟩ := (hr1.below hb).get hkn
      subst hA
      have hcall := am_calls w.heap.size k (tlen ys) (tlen xs + tlen ys - k) c2 A2 P _ (lim (xs.take (tlen xs)) k) wr hbl HI.out.2.1 (by rw [HPL.out]; omega) (by omega) hrB haw hx (by rw [HPL.out]; omega)
      have HC := hide hcall
      clear hcall
      go_wp2_with fail
      refine (unhide HC).mono ?_
      rintro e w' ⟨cc, T, rfl, hcc, hg, hbl2, HAM⟩
      have HM := hide (mul_step hkn hr2.len hcc HI.out HAM)
      have hT : T.length = tlen xs + tlen ys := HAM.1.trans HPL.out
      have hcell : w'.cell? ⟨w.heap.size, k + tlen ys, none⟩ = some (.int .u32 (lim T (k + tlen ys) : Nat)) := blk_cell hbl2 (by omega)
      have hfr := hbl2.frozen (k + tlen ys)
      have hb2 : Below w.heap.size w w' := hb.grown hg hb.size (fun g hg => by injection hg with hg; omega)
      have HT := hide hT
      clear hT HAM hc
      go_wp2
      go_roundw
      case rel => exact ⟨k + 1, _, by omega, by go_num, hb2.setCell (Nat.le_refl _) _, blk_set hbl2 _ cc, HM⟩
      case measure => simp [intOf]; omega
    · obtain rfl : k = tlen xs := by omega
      have HE := hide (mul_end hr1.len HI.out)
      have hr := blk_rd0 (c := tlen xs + tlen ys) hbl HI.out.2.1 HI.out.1 (by omega)
      go_wp2_with (go_at_call 56; refine (trim_calls _ _ _ _ _ hr (by omega)).mono ?_; rintro e w' ⟨A1, c1, rfl, rfl, hr3, _⟩)
      go_ret
      exact gives_trim HI.out.2.1 (by rw [HE.out, HV.out.1, HV.out.2]) hr3 hb

theorem mul_calls (A B : Option Addr) (n m c d : Nat) (xs ys : List Nat) (w : World) (h : Rd w A n c xs) (h2 : Rd w B m d ys) (hn : n ≤ 1048576) (hm : m ≤ 1048576) :
    Calls Try.prog 51 #[.slice A n c, .slice B m d] w (Gives w (dg (val xs * val ys))) := by
  rcases Nat.lt_or_ge (tlen ys) (tlen xs) with hl | hl
  · rw [Nat.mul_comm]
    exact mul_calls_gt B A m n d c ys xs w h2 h hm hn hl
  · exact mul_calls_le A B n m c d xs ys w h h2 hn hm hl
end Go.Proofs.Ytefcpcekoihgjaa
