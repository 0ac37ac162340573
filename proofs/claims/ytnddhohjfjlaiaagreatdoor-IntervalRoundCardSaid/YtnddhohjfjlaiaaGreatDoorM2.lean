/-
  Several texts in one, in build order: W3 W4 W5 W6 W7 W8 N3 W9 W10 N4 W11 W12 W13 W14 N5 W15 W16 W17 W18.
-/
import Derived.Test.YtnddhohjfjlaiaaGreatDoorM1
import Derived.Test.YtnddhohjfjlaiaaGreatDoorShelf
import Derived.Laws.BitsAllLaws
import Derived.Deep.RegionWith
import Derived.Deep.RegionHeld3
import Derived.Lib.ItoaNum

/-
  Comparing: Same, the specification's Cmp, cmp.Compare at limbs, Cmp.
-/
namespace Go.Proofs.YtnddhohjfjlaiaaGreatDoor
open Go.RowKit
set_option linter.unusedVariables false
set_option linter.unusedSimpArgs false

theorem same_calls (A B : Option Addr) (n c d : Nat) (xs : List Nat) (w : World) (h : Rd w A n c xs) (h2 : Rd w B n d xs) (hn : n ≤ 1048576) :
    Calls Tryz.prog 38 #[.slice A n c, .slice B n d] w fun e w' => e = .returned (.bool true) ∧ ∃ m, w' = w.drewN m := by
  have hnn : ((n : Int) != (n : Int)) = false := by simp
  go_enter Tryz.func38, Tryz.ntmps38
  go_wp2
  go_loopw [5] (fun i wr => ∃ k m : Nat, k ≤ n ∧ i = .int .i64 k ∧ wr = w.drewN m) (fun i _ => n - (intOf i).toNat)
  case atStart => exact ⟨0, 0, by omega, rfl, rfl⟩
  case round =>
    obtain ⟨k, m, hk, rfl, rfl⟩ := hrel
    by_cases hkn : k < n
    · obtain ⟨b, off, rfl, _, hc⟩ := h.get hkn
      obtain ⟨b2, off2, rfl, _, hc2⟩ := h2.get hkn
      clear h h2
      go_wp2
      go_quiet (fail)
      go_wp2
      go_roundw
      case rel => exact ⟨k + 1, _, by omega, by go_num, rfl⟩
      case measure => simp [intOf]; omega
    · go_wp2
      go_ret
      exact ⟨rfl, _, rfl⟩

theorem rcmp_calls (A B : Option Addr) (n m c d : Nat) (xs ys : List Nat) (w : World) (r : Int) (h : Rd w A n c xs) (h2 : Rd w B m d ys) (hn : n ≤ 1048576) (hm : m ≤ 1048576) (hr : sg (val xs) (val ys) = r) :
    Calls Tryz.prog 56 #[.slice A n c, .slice B m d] w fun e w' => e = .returned (.int .i64 r) ∧ w = w' := by
  have HR := hide hr
  have HL := hide (And.intro h.len h2.len)
  clear hr
  go_enter Tryz.func56, Tryz.ntmps56
  go_wp2
  go_loop [5] (fun i => ∃ j : Nat, j ≤ max n m ∧ i = .int .i64 ((j : Int) - 1) ∧ Hid (∀ k, j ≤ k → lim xs k = lim ys k)) (fun i => (intOf i + 1).toNat)
  case atStart =>
    refine ⟨max n m, by omega, ?_, fun k hk => ?_⟩
    · exact congrArg _ (by omega)
    · rw [lim_of_ge (by have := HL.out.1; omega), lim_of_ge (by have := HL.out.2; omega)]
  case round =>
    obtain ⟨j, hj, rfl, hz⟩ := hrel
    by_cases h0 : j = 0
    · subst h0
      go_wp2
      go_ret
      refine ⟨ret_int ?_, rfl⟩
      rw [← HR.out, sg_eq (val_eq_of fun k => hz.out k (by omega))]
    · obtain ⟨k, rfl⟩ : ∃ k, j = k + 1 := ⟨j - 1, by omega⟩
      have e : ((k + 1 : Nat) : Int) - 1 = k := by omega
      rw [e]
      clear e
      go_wp2_with (first
        | (go_at_call 81; (with_reducible refine (rlimb_calls A n c xs _ k h).mono ?_); rintro e w' ⟨rfl, rfl⟩)
        | (go_at_call 81; (with_reducible refine (rlimb_calls B m d ys _ k h2).mono ?_); rintro e w' ⟨rfl, rfl⟩))
      · have ht : lim xs k < lim ys k := by assumption
        go_ret
        refine ⟨ret_int ?_, rfl⟩
        rw [← HR.out, sg_lt (val_lt_of h.sm k (fun j hj => hz.out j hj) ht)]
      · have ht : lim ys k < lim xs k := by assumption
        go_ret
        refine ⟨ret_int ?_, rfl⟩
        rw [← HR.out, sg_gt (val_lt_of h2.sm k (fun j hj => (hz.out j hj).symm) ht)]
      · have ht : ¬ lim xs k < lim ys k := by assumption
        have ht2 : ¬ lim ys k < lim xs k := by assumption
        go_round
        case rel =>
          refine ⟨k, by omega, by go_num, fun j hj => ?_⟩
          by_cases he : j = k
          · subst he; omega
          · exact hz.out j (by omega)
        case measure => simp [intOf] <;> omega

theorem cmp32_calls (a b : Nat) (w : World) (r : Int) (ha : a < 4294967296) (hb : b < 4294967296) (hr : sg a b = r) :
    Calls Tryz.prog 89 #[.int .u32 (a : Int), .int .u32 (b : Int)] w fun e w' => e = .returned (.int .i64 r) ∧ w' = w := by
  have h1 : ((a : Int) != (a : Int)) = false := by simp
  have h2 : ((b : Int) != (b : Int)) = false := by simp
  rcases Nat.lt_trichotomy a b with h | h | h
  · rw [sg_lt h] at hr
    subst hr
    go_enter Tryz.func89, Tryz.ntmps89
    go_wp2
    go_ret
    exact ⟨rfl, rfl⟩
  · rw [sg_eq h] at hr
    subst hr
    subst h
    go_enter Tryz.func89, Tryz.ntmps89
    go_wp2
    go_ret
    exact ⟨rfl, rfl⟩
  · rw [sg_gt h] at hr
    subst hr
    have hn : ¬ (a : Int) < b := by omega
    go_enter Tryz.func89, Tryz.ntmps89
    go_wp2
    go_ret
    exact ⟨rfl, rfl⟩

theorem cmpInt_calls (a b : Nat) (w : World) (r : Int) (hr : sg a b = r) :
    Calls Tryz.prog 64 #[.int .i64 (a : Int), .int .i64 (b : Int)] w fun e w' => e = .returned (.int .i64 r) ∧ w' = w := by
  refine (Tryz.cmp_Compare_int a b w).mono ?_
  rintro e w' ⟨rfl, rfl⟩
  refine ⟨ret_int ?_, rfl⟩
  rw [← hr]
  unfold Lib.compareInt sg
  split <;> split <;> (try split) <;> (try split) <;> omega

theorem cmp_calls (A B : Option Addr) (n m c d : Nat) (xs ys : List Nat) (w : World) (r : Int) (h : Rd w A n c xs) (h2 : Rd w B m d ys) (hn : n ≤ 1048576) (hm : m ≤ 1048576) (hr : sg (val xs) (val ys) = r) :
    Calls Tryz.prog 65 #[.slice A n c, .slice B m d] w fun e w' => e = .returned (.int .i64 r) ∧ ∃ q, w' = w.drewN q := by
  have HR := hide hr
  clear hr
  have hn4 : n ≤ 4194304 := by omega
  have hm4 : m ≤ 4194304 := by omega
  by_cases ht : tlen xs = tlen ys
  · have hne : (((tlen xs : Nat) : Int) != ((tlen ys : Nat) : Int)) = false := by rw [bne_eq_false_iff_eq]; omega
    have hv1 := val_trim h.sm
    have hv2 := val_trim h2.sm
    have htn : tlen xs ≤ 1048576 := by have := tlen_le xs; have := h.len; omega
    have HT := hide (And.intro ht (And.intro hv1 hv2))
    clear ht hv1 hv2
    go_enter Tryz.func65, Tryz.ntmps65
    go_wp2_with (first
      | (go_at_call 53; (with_reducible refine (trim_calls A n c xs _ h hn4).mono ?_); rintro e w' ⟨A1, c1, rfl, rfl, hr1, _⟩)
      | (go_at_call 53; (with_reducible refine (trim_calls B m d ys _ h2 hm4).mono ?_); rintro e w' ⟨A2, c2, rfl, rfl, hr2, _⟩))
    go_loopw [5] (fun i wr => ∃ j q : Nat, j ≤ tlen xs ∧ i = .int .i64 ((j : Int) - 1) ∧ Hid (∀ k, j ≤ k → lim (xs.take (tlen xs)) k = lim (ys.take (tlen ys)) k) ∧ wr = w.drewN q) (fun i _ => (intOf i + 1).toNat)
    case atStart =>
      exact ⟨tlen xs, 0, by omega, rfl, fun k hk => by rw [lim_of_ge (by rw [List.length_take]; omega), lim_of_ge (by rw [List.length_take]; have := HT.out.1; omega)], rfl⟩
    case round =>
      obtain ⟨j, q, hj, rfl, hz, rfl⟩ := hrel
      by_cases h0 : j = 0
      · subst h0
        go_wp2
        go_ret
        refine ⟨ret_int ?_, _, rfl⟩
        rw [← HR.out, ← HT.out.2.1, ← HT.out.2.2, sg_eq (val_eq_of fun k => hz.out k (by omega))]
      · obtain ⟨k, rfl⟩ : ∃ k, j = k + 1 := ⟨j - 1, by omega⟩
        have e : ((k + 1 : Nat) : Int) - 1 = k := by omega
        rw [e]
        clear e
        have hkm : k < tlen ys := by have := HT.out.1; omega
        obtain ⟨b, off, rfl, _, hc⟩ := hr1.get (k := k) (by omega)
        obtain ⟨b2, off2, rfl, _, hc2⟩ := hr2.get (k := k) hkm
        have hl1 := hr1.sm.lim k
        have hl2 := hr2.sm.lim k
        have hsg : lim (xs.take (tlen xs)) k ≠ lim (ys.take (tlen ys)) k → sg (lim (xs.take (tlen xs)) k) (lim (ys.take (tlen ys)) k) = r := by
          intro hne
          rw [← HR.out, ← HT.out.2.1, ← HT.out.2.2]
          rcases Nat.lt_or_ge (lim (xs.take (tlen xs)) k) (lim (ys.take (tlen ys)) k) with hl | hl
          · rw [sg_lt hl, sg_lt (val_lt_of hr1.sm k (fun j hj => hz.out j hj) hl)]
          · rw [sg_gt (by omega), sg_gt (val_lt_of hr2.sm k (fun j hj => (hz.out j hj).symm) (by omega))]
        have HSG := hide hsg
        clear hsg
        go_wp2
        go_quiet (fail)
        go_wp2_with fail
        · have ht : ((lim (xs.take (tlen xs)) k : Int) != (lim (ys.take (tlen ys)) k : Int)) = true := by assumption
          have hs := HSG.out (by have := WalkArith.int_ne' ht; omega)
          have HS := hide hs
          clear hs ht
          go_quiet ((go_at_call 89; exact quiet_add_same (cmp32_calls _ _ _ r hl1 hl2 HS.out)))
          go_wp2
          go_ret
          exact ⟨rfl, drewN3 _ _ _ _⟩
        · have ht : ((lim (xs.take (tlen xs)) k : Int) != (lim (ys.take (tlen ys)) k : Int)) = false := by assumption
          go_roundw
          case rel =>
            refine ⟨k, _, by omega, by go_num, fun j hj => ?_, rfl⟩
            by_cases he : j = k
            · subst he; have := WalkArith.int_eq' ht; omega
            · exact hz.out j (by omega)
          case measure => simp [intOf] <;> omega
  · have hne : (((tlen xs : Nat) : Int) != ((tlen ys : Nat) : Int)) = true := by rw [bne_iff_ne]; omega
    have hsg : sg (tlen xs) (tlen ys) = r := by
      rw [← HR.out]
      rcases Nat.lt_or_ge (tlen xs) (tlen ys) with hl | hl
      · rw [sg_lt hl, sg_lt]
        rcases Nat.lt_or_ge (val xs) (val ys) with hv | hv
        · exact hv
        · have := tlen_mono h2.sm h.sm hv; omega
      · rw [sg_gt (by omega), sg_gt]
        rcases Nat.lt_or_ge (val ys) (val xs) with hv | hv
        · exact hv
        · have := tlen_mono h.sm h2.sm hv; omega
    have HS := hide hsg
    clear hsg ht
    go_enter Tryz.func65, Tryz.ntmps65
    go_wp2_with (first
      | (go_at_call 53; (with_reducible refine (trim_calls A n c xs _ h hn4).mono ?_); rintro e w' ⟨A1, c1, rfl, rfl, hr1, _⟩)
      | (go_at_call 53; (with_reducible refine (trim_calls B m d ys _ h2 hm4).mono ?_); rintro e w' ⟨A2, c2, rfl, rfl, hr2, _⟩)
      | (go_at_call 64; refine (cmpInt_calls (tlen xs) (tlen ys) _ r HS.out).mono ?_; rintro e w' ⟨rfl, rfl⟩))
    go_ret
    exact ⟨rfl, 0, rfl⟩
end Go.Proofs.YtnddhohjfjlaiaaGreatDoor

/-
  Add and Sub.
-/
namespace Go.Proofs.YtnddhohjfjlaiaaGreatDoor
open Go.RowKit
set_option linter.unusedVariables false
set_option linter.unusedSimpArgs false

/-- What the trimming of a block of limbs gives. -/
theorem gives_trim {w w' : World} {S : List Nat} {A : Option Addr} {c N : Nat} (hs : Sm S) (hv : val S = N) (hr : Rd w' A (tlen S) c (S.take (tlen S))) (hb : Below w.heap.size w w') :
    Gives w (dg N) (.returned (.slice A (tlen S) c)) w' := by
  have h1 := len_dg_val hs
  have h2 := dg_val hs
  rw [hv] at h1 h2
  exact ⟨A, c, by rw [h1], by rw [h1, h2]; exact hr, hb⟩

theorem add_calls_le (A B : Option Addr) (n m c d : Nat) (xs ys : List Nat) (w : World) (h : Rd w A n c xs) (h2 : Rd w B m d ys) (hn : n ≤ 1048576) (hmn : m ≤ n) :
    Calls Tryz.prog 80 #[.slice A n c, .slice B m d] w (Gives w (dg (val xs + val ys))) := by
  have hmk := fun W => run_mk 23 (.inr rfl) (n + 1) ((n : Int) + 1) (by omega) (by omega) W
  have hd : decide (n < m) = false := by simp; omega
  go_enter Tryz.func80, Tryz.ntmps80
  go_wp2
  go_loopw [6, 22] (fun cy i wr => ∃ (k cc : Nat) (S : List Nat), k ≤ n ∧ i = .int .i64 k ∧ cy = .int .u64 cc ∧ cc ≤ 1 ∧ Below w.heap.size w wr ∧ Blk wr w.heap.size (arr S) ∧ Hid (S.length = n + 1 ∧ Sm S ∧ pv S k + pw k * cc = pv xs k + pv ys k)) (fun _ i _ => n - (intOf i).toNat)
  case atStart =>
    exact ⟨0, 0, zs (n + 1), by omega, rfl, rfl, by omega, (Below.refl _ _).alloc (Nat.le_refl _) _, Blk.new _ _, zs_len _, zs_sm _, by rw [zs_pv, pv_zero, pv_zero, Nat.mul_zero]⟩
  case round =>
    obtain ⟨k, cc, S, hk, rfl, rfl, hcc, hb, hbl, HI⟩ := hrel
    have hx := h.sm.lim k
    have hy := h2.sm.lim k
    have hbc : wr.cell? ⟨w.heap.size, k, none⟩ = some (.int .u32 (lim S k : Nat)) := blk_cell hbl (by have := HI.out.1; omega)
    have hbf := hbl.frozen k
    by_cases hkn : k < n
    · obtain ⟨b, off, hA, _, hc⟩ := (h.below hb).get hkn
      subst hA
      have hr2 := h2.below hb
      go_wp2_with (go_at_call 100; refine (limb_calls B m d ys _ k hr2).mono ?_; rintro e w' ⟨rfl, rfl⟩)
      go_roundw
      case rel =>
        refine ⟨k + 1, _, _, by omega, by go_num, congrArg _ ?_, ?_, hb.setCell (Nat.le_refl _) _, ?_, add_step hkn hcc hx hy HI.out⟩
        · omega
        · omega
        · have := blk_set hbl k ((cc + (lim xs k + lim ys k)) % 4294967296)
          rwa [show (((cc + (lim xs k + lim ys k)) % 4294967296 : Nat) : Int) = ((cc : Int) + ((lim xs k : Int) + (lim ys k : Int))) % 4294967296 from by omega] at this
      case measure => simp [intOf]; omega
    · obtain rfl : n = k := by omega
      obtain ⟨e1, e2, e3⟩ := add_end hcc (by rw [h.len]; omega) (by rw [h2.len]; omega) HI.out
      have hbl2 := blk_set hbl n cc
      have hr := blk_rd0 (c := n + 1) hbl2 e2 e1 (by omega)
      have E := hide (And.intro e1 (And.intro e2 e3))
      clear e1 e2 e3
      go_wp2_with (go_at_call 53; refine (trim_calls _ _ _ _ _ hr (by omega)).mono ?_; rintro e w' ⟨A1, c1, rfl, rfl, hr1, _⟩)
      go_ret
      exact gives_trim E.out.2.1 E.out.2.2 hr1 (hb.setCell (Nat.le_refl _) _)
theorem add_calls_gt (A B : Option Addr) (n m c d : Nat) (xs ys : List Nat) (w : World) (h : Rd w A n c xs) (h2 : Rd w B m d ys) (hn : n ≤ 1048576) (hmn : m < n) :
    Calls Tryz.prog 80 #[.slice B m d, .slice A n c] w (Gives w (dg (val xs + val ys))) := by
  have hmk := fun W => run_mk 23 (.inr rfl) (n + 1) ((n : Int) + 1) (by omega) (by omega) W
  have hd : decide (m < n) = true := by simp; omega
  go_enter Tryz.func80, Tryz.ntmps80
  go_wp2
  go_loopw [6, 22] (fun cy i wr => ∃ (k cc : Nat) (S : List Nat), k ≤ n ∧ i = .int .i64 k ∧ cy = .int .u64 cc ∧ cc ≤ 1 ∧ Below w.heap.size w wr ∧ Blk wr w.heap.size (arr S) ∧ Hid (S.length = n + 1 ∧ Sm S ∧ pv S k + pw k * cc = pv xs k + pv ys k)) (fun _ i _ => n - (intOf i).toNat)
  case atStart =>
    exact ⟨0, 0, zs (n + 1), by omega, rfl, rfl, by omega, (Below.refl _ _).alloc (Nat.le_refl _) _, Blk.new _ _, zs_len _, zs_sm _, by rw [zs_pv, pv_zero, pv_zero, Nat.mul_zero]⟩
  case round =>
    obtain ⟨k, cc, S, hk, rfl, rfl, hcc, hb, hbl, HI⟩ := hrel
    have hx := h.sm.lim k
    have hy := h2.sm.lim k
    have hbc : wr.cell? ⟨w.heap.size, k, none⟩ = some (.int .u32 (lim S k : Nat)) := blk_cell hbl (by have := HI.out.1; omega)
    have hbf := hbl.frozen k
    by_cases hkn : k < n
    · obtain ⟨b, off, hA, _, hc⟩ := (h.below hb).get hkn
      subst hA
      have hr2 := h2.below hb
      go_wp2_with (go_at_call 100; refine (limb_calls B m d ys _ k hr2).mono ?_; rintro e w' ⟨rfl, rfl⟩)
      go_roundw
      case rel =>
        refine ⟨k + 1, _, _, by omega, by go_num, congrArg _ ?_, ?_, hb.setCell (Nat.le_refl _) _, ?_, add_step hkn hcc hx hy HI.out⟩
        · omega
        · omega
        · have := blk_set hbl k ((cc + (lim xs k + lim ys k)) % 4294967296)
          rwa [show (((cc + (lim xs k + lim ys k)) % 4294967296 : Nat) : Int) = ((cc : Int) + ((lim xs k : Int) + (lim ys k : Int))) % 4294967296 from by omega] at this
      case measure => simp [intOf]; omega
    · obtain rfl : n = k := by omega
      obtain ⟨e1, e2, e3⟩ := add_end hcc (by rw [h.len]; omega) (by rw [h2.len]; omega) HI.out
      have hbl2 := blk_set hbl n cc
      have hr := blk_rd0 (c := n + 1) hbl2 e2 e1 (by omega)
      have E := hide (And.intro e1 (And.intro e2 e3))
      clear e1 e2 e3
      go_wp2_with (go_at_call 53; refine (trim_calls _ _ _ _ _ hr (by omega)).mono ?_; rintro e w' ⟨A1, c1, rfl, rfl, hr1, _⟩)
      go_ret
      exact gives_trim E.out.2.1 E.out.2.2 hr1 (hb.setCell (Nat.le_refl _) _)

theorem add_calls (A B : Option Addr) (n m c d : Nat) (xs ys : List Nat) (w : World) (h : Rd w A n c xs) (h2 : Rd w B m d ys) (hn : n ≤ 1048576) (hm : m ≤ 1048576) :
    Calls Tryz.prog 80 #[.slice A n c, .slice B m d] w (Gives w (dg (val xs + val ys))) := by
  rcases Nat.lt_or_ge n m with hl | hl
  · rw [Nat.add_comm]
    exact add_calls_gt B A m n d c ys xs w h2 h hm hl
  · exact add_calls_le A B n m c d xs ys w h h2 hn hl
end Go.Proofs.YtnddhohjfjlaiaaGreatDoor

/-
  Sub.
-/
namespace Go.Proofs.YtnddhohjfjlaiaaGreatDoor
open Go.RowKit
set_option linter.unusedVariables false
set_option linter.unusedSimpArgs false

/-- A slice of limbs and an error. -/
def GivesE (w : World) (xs : List Nat) (r : Int) (e : Ending) (w' : World) : Prop := ∃ A c, e = .returned (.tuple #[.slice A xs.length c, .int .i64 r]) ∧ Rd w' A xs.length c xs ∧ Below w.heap.size w w'

theorem gives_err {w w' : World} {xs : List Nat} {A : Option Addr} {n c : Nat} (h : Gives w xs (.returned (.slice A n c)) w') (r : Int) : GivesE w xs r (.returned (.tuple #[.slice A n c, .int .i64 r])) w' := by
  obtain ⟨A', c', he, h1, h2⟩ := h
  injection he with he
  injection he with a b d
  subst a b d
  exact ⟨_, _, rfl, h1, h2⟩
theorem sub_word {x y b : Nat} (hx : x < 4294967296) (hy : y < 4294967296) (hb : b ≤ 1) : ∃ v q : Nat, IntKind.u64.wrap (IntKind.u64.wrap ((x : Int) - y) - b) % 4294967296 = (v : Int) ∧
    IntKind.u64.wrap (IntKind.u64.wrap ((x : Int) - y) - b) / 9223372036854775808 = (q : Int) ∧ v < 4294967296 ∧ q ≤ 1 ∧ v + y + b = x + 4294967296 * q := by
  rw [IntKind.wrap_u64, IntKind.wrap_u64]
  by_cases h : x < y + b
  · exact ⟨x + 4294967296 - y - b, 1, by omega, by omega, by omega, by omega, by omega⟩
  · exact ⟨x - y - b, 0, by omega, by omega, by omega, by omega, by omega⟩

end Go.Proofs.YtnddhohjfjlaiaaGreatDoor

/-
  addMultiple and Mul.
-/
namespace Go.Proofs.YtnddhohjfjlaiaaGreatDoor
open Go.RowKit
set_option linter.unusedVariables false
set_option linter.unusedSimpArgs false

theorem grown_set {w wr : World} {g : Nat} (h : w.grownBy wr (some g)) (i : Nat) (u : Value) : w.grownBy (wr.setCell ⟨g, i, none⟩ u) (some g) :=
  ⟨h.os, h.tape, h.output, by simpa [World.setCell] using h.size, fun k hk hne => (Below.heap_setCell wr ⟨g, i, none⟩ u k (fun e => hne (by rw [e]))).trans (h.block k hk hne)⟩

theorem am_calls (g o m cs d : Nat) (B : Option Addr) (S ys : List Nat) (x : Nat) (w : World) (hb : Blk w g (arr S)) (hs : Sm S) (ho : o + m ≤ S.length) (hcs : m ≤ cs) (h2 : Rd w B m d ys) (ha : Away B m g)
    (hx : x < 4294967296) (hS : S.length ≤ 4194304) :
    Calls Tryz.prog 71 #[.slice (some ⟨g, o, none⟩) m cs, .slice B m d, .int .u32 (x : Int)] w fun e w' => ∃ (cc : Nat) (T : List Nat), e = .returned (.int .u32 (cc : Int)) ∧ cc < 4294967296 ∧ w.grownBy w' (some g) ∧ Blk w' g (arr T) ∧ AmInv S T ys o x m cc := by
  go_enter Tryz.func71, Tryz.ntmps71
  go_wp2
  go_loopw [7, 12] (fun cy i wr => ∃ (k cc : Nat) (T : List Nat), k ≤ m ∧ i = .int .i64 k ∧ cy = .int .u64 cc ∧ cc ≤ 4294967295 ∧ w.grownBy wr (some g) ∧ Blk wr g (arr T) ∧ Hid (AmInv S T ys o x k cc)) (fun _ i _ => m - (intOf i).toNat)
  case atStart => exact ⟨0, 0, S, by omega, rfl, rfl, by omega, World.grownBy.refl _ _, hb, am_start S ys o x hs⟩
  case round =>
    obtain ⟨k, cc, T, hk, rfl, rfl, hcc, hg, hbl, HI⟩ := hrel
    by_cases hkm : k < m
    · have hok : o + k < T.length := by have := HI.out.1; omega
      have hbc : wr.cell? ⟨g, o + k, none⟩ = some (.int .u32 (lim T (o + k) : Nat)) := blk_cell hbl hok
      have hbf := hbl.frozen (o + k)
      have hsT := HI.out.2.1.lim (o + k)
      have hy := h2.sm.lim k
      have hxy := mul_bound hx hy
      have hxy0 : (0 : Int) ≤ (x : Int) * (lim ys k : Int) := Int.mul_nonneg (by omega) (by omega)
      have hxy1 : (x : Int) * (lim ys k : Int) ≤ 18446744065119617025 := by have : ((x * lim ys k : Nat) : Int) = (x : Int) * (lim ys k : Int) := by simp
                                                                            omega
      obtain ⟨b, off, hA, _, hc⟩ := (h2.grown hg ha).get hkm
      subst hA
      go_wp2
      go_roundw
      case rel =>
        refine ⟨k + 1, (cc + (x * lim ys k + lim T (o + k))) / 4294967296, _, by omega, by go_num, congrArg _ ?_, ?_, grown_set hg _ _, ?_, am_step (by omega) HI.out⟩
        · simp
        · omega
        · have := blk_set hbl (o + k) ((cc + (x * lim ys k + lim T (o + k))) % 4294967296)
          rwa [show (((cc + (x * lim ys k + lim T (o + k))) % 4294967296 : Nat) : Int) = ((cc : Int) + ((x : Int) * (lim ys k : Int) + (lim T (o + k) : Int))) % 4294967296 from by simp] at this
      case measure => simp [intOf]; omega
    · obtain rfl : m = k := by omega
      go_wp2
      go_ret
      exact ⟨cc, T, rfl, by omega, hg, hbl, HI.out⟩

theorem mul_calls_le (A B : Option Addr) (n m c d : Nat) (xs ys : List Nat) (w : World) (h : Rd w A n c xs) (h2 : Rd w B m d ys) (hn : n ≤ 1048576) (hm : m ≤ 1048576) (hle : tlen xs ≤ tlen ys) :
    Calls Tryz.prog 45 #[.slice A n c, .slice B m d] w (Gives w (dg (val xs * val ys))) := by
  have hn4 : n ≤ 4194304 := by omega
  have hm4 : m ≤ 4194304 := by omega
  have ht1 : tlen xs ≤ 1048576 := by have := tlen_le xs; have := h.len; omega
  have ht2 : tlen ys ≤ 1048576 := by have := tlen_le ys; have := h2.len; omega
  have hmk := fun W => run_mk 23 (.inr rfl) (tlen xs + tlen ys) ((tlen xs : Int) + (tlen ys : Int)) (by omega) (by omega) W
  have hd : decide (tlen ys < tlen xs) = false := by simp; omega
  have HV := hide (And.intro (val_trim h.sm) (val_trim h2.sm))
  go_enter Tryz.func45, Tryz.ntmps45
  go_wp2_with (first
      | (go_at_call 53; (with_reducible refine (trim_calls A n c xs _ h hn4).mono ?_); rintro e w' ⟨A1, c1, rfl, rfl, hr1, _⟩)
      | (go_at_call 53; (with_reducible refine (trim_calls B m d ys _ h2 hm4).mono ?_); rintro e w' ⟨A2, c2, rfl, rfl, hr2, _⟩))
  go_loopw [27] (fun i wr => ∃ (k : Nat) (P : List Nat), k ≤ tlen xs ∧ i = .int .i64 k ∧ Below w.heap.size w wr ∧ Blk wr w.heap.size (arr P) ∧ Hid (MulInv P (xs.take (tlen xs)) (ys.take (tlen ys)) (tlen xs) (tlen ys) k)) (fun i _ => tlen xs - (intOf i).toNat)
  case atStart => exact ⟨0, _, by omega, rfl, (Below.refl _ _).alloc (Nat.le_refl _) _, Blk.new _ _, mul_start _ _ _ _⟩
  case round =>
    obtain ⟨k, P, hk, rfl, hb, hbl, HI⟩ := hrel
    by_cases hkn : k < tlen xs
    · have hx := hr1.sm.lim k
      have hPl : P.length = tlen xs + tlen ys := HI.out.1
      have HPL := hide hPl
      clear hPl
      have hrB := hr2.below hb
      have haw : Away A2 (tlen ys) w.heap.size := fun hp ad had => by
        obtain ⟨b2, off2, hA2, hb2, _⟩ := hr2.at_ hp
        rw [hA2] at had
        injection had with had
        subst had
        exact Nat.ne_of_lt hb2
      obtain ⟨b, off, hA, _, hc⟩ := (hr1.below hb).get hkn
      subst hA
      have hcall := am_calls w.heap.size k (tlen ys) (tlen xs + tlen ys - k) c2 A2 P _ (lim (xs.take (tlen xs)) k) wr hbl HI.out.2.1 (by rw [HPL.out]; omega) (by omega) hrB haw hx (by rw [HPL.out]; omega)
      have HC := hide hcall
      clear hcall
      go_wp2_with fail
      refine (unhide HC).mono ?_
      rintro e w' ⟨cc, T, rfl, hcc, hg, hbl2, HAM⟩
      have HM := hide (mul_step hkn hr2.len hcc HI.out HAM)
      have hT : T.length = tlen xs + tlen ys := HAM.1.trans HPL.out
      have hcell : w'.cell? ⟨w.heap.size, k + tlen ys, none⟩ = some (.int .u32 (lim T (k + tlen ys) : Nat)) := blk_cell hbl2 (by omega)
      have hfr := hbl2.frozen (k + tlen ys)
      have hb2 : Below w.heap.size w w' := hb.grown hg hb.size (fun g hg => by injection hg with hg; omega)
      have HT := hide hT
      clear hT HAM hc
      go_wp2
      go_roundw
      case rel => exact ⟨k + 1, _, by omega, by go_num, hb2.setCell (Nat.le_refl _) _, blk_set hbl2 _ cc, HM⟩
      case measure => simp [intOf]; omega
    · obtain rfl : k = tlen xs := by omega
      have HE := hide (mul_end hr1.len HI.out)
      have hr := blk_rd0 (c := tlen xs + tlen ys) hbl HI.out.2.1 HI.out.1 (by omega)
      go_wp2_with (go_at_call 53; refine (trim_calls _ _ _ _ _ hr (by omega)).mono ?_; rintro e w' ⟨A1, c1, rfl, rfl, hr3, _⟩)
      go_ret
      exact gives_trim HI.out.2.1 (by rw [HE.out, HV.out.1, HV.out.2]) hr3 hb

theorem mul_calls_gt (A B : Option Addr) (n m c d : Nat) (xs ys : List Nat) (w : World) (h : Rd w A n c xs) (h2 : Rd w B m d ys) (hn : n ≤ 1048576) (hm : m ≤ 1048576) (hle : tlen xs < tlen ys) :
    Calls Tryz.prog 45 #[.slice B m d, .slice A n c] w (Gives w (dg (val xs * val ys))) := by
  have hn4 : n ≤ 4194304 := by omega
  have hm4 : m ≤ 4194304 := by omega
  have ht1 : tlen xs ≤ 1048576 := by have := tlen_le xs; have := h.len; omega
  have ht2 : tlen ys ≤ 1048576 := by have := tlen_le ys; have := h2.len; omega
  have hmk := fun W => run_mk 23 (.inr rfl) (tlen xs + tlen ys) ((tlen xs : Int) + (tlen ys : Int)) (by omega) (by omega) W
  have hd : decide (tlen xs < tlen ys) = true := by simp; omega
  have HV := hide (And.intro (val_trim h.sm) (val_trim h2.sm))
  go_enter Tryz.func45, Tryz.ntmps45
  go_wp2_with (first
      | (go_at_call 53; (with_reducible refine (trim_calls A n c xs _ h hn4).mono ?_); rintro e w' ⟨A1, c1, rfl, rfl, hr1, _⟩)
      | (go_at_call 53; (with_reducible refine (trim_calls B m d ys _ h2 hm4).mono ?_); rintro e w' ⟨A2, c2, rfl, rfl, hr2, _⟩))
  go_loopw [27] (fun i wr => ∃ (k : Nat) (P : List Nat), k ≤ tlen xs ∧ i = .int .i64 k ∧ Below w.heap.size w wr ∧ Blk wr w.heap.size (arr P) ∧ Hid (MulInv P (xs.take (tlen xs)) (ys.take (tlen ys)) (tlen xs) (tlen ys) k)) (fun i _ => tlen xs - (intOf i).toNat)
  case atStart => exact ⟨0, _, by omega, rfl, (Below.refl _ _).alloc (Nat.le_refl _) _, Blk.new _ _, mul_start _ _ _ _⟩
  case round =>
    obtain ⟨k, P, hk, rfl, hb, hbl, HI⟩ := hrel
    by_cases hkn : k < tlen xs
    · have hx := hr1.sm.lim k
      have hPl : P.length = tlen xs + tlen ys := HI.out.1
      have HPL := hide hPl
      clear hPl
      have hrB := hr2.below hb
      have haw : Away A2 (tlen ys) w.heap.size := fun hp ad had => by
        obtain ⟨b2, off2, hA2, hb2, _⟩ := hr2.at_ hp
        rw [hA2] at had
        injection had with had
        subst had
        exact Nat.ne_of_lt hb2
      obtain ⟨b, off, hA, _, hc⟩ := (hr1.below hb).get hkn
      subst hA
      have hcall := am_calls w.heap.size k (tlen ys) (tlen xs + tlen ys - k) c2 A2 P _ (lim (xs.take (tlen xs)) k) wr hbl HI.out.2.1 (by rw [HPL.out]; omega) (by omega) hrB haw hx (by rw [HPL.out]; omega)
      have HC := hide hcall
      clear hcall
      go_wp2_with fail
      refine (unhide HC).mono ?_
      rintro e w' ⟨cc, T, rfl, hcc, hg, hbl2, HAM⟩
      have HM := hide (mul_step hkn hr2.len hcc HI.out HAM)
      have hT : T.length = tlen xs + tlen ys := HAM.1.trans HPL.out
      have hcell : w'.cell? ⟨w.heap.size, k + tlen ys, none⟩ = some (.int .u32 (lim T (k + tlen ys) : Nat)) := blk_cell hbl2 (by omega)
      have hfr := hbl2.frozen (k + tlen ys)
      have hb2 : Below w.heap.size w w' := hb.grown hg hb.size (fun g hg => by injection hg with hg; omega)
      have HT := hide hT
      clear hT HAM hc
      go_wp2
      go_roundw
      case rel => exact ⟨k + 1, _, by omega, by go_num, hb2.setCell (Nat.le_refl _) _, blk_set hbl2 _ cc, HM⟩
      case measure => simp [intOf]; omega
    · obtain rfl : k = tlen xs := by omega
      have HE := hide (mul_end hr1.len HI.out)
      have hr := blk_rd0 (c := tlen xs + tlen ys) hbl HI.out.2.1 HI.out.1 (by omega)
      go_wp2_with (go_at_call 53; refine (trim_calls _ _ _ _ _ hr (by omega)).mono ?_; rintro e w' ⟨A1, c1, rfl, rfl, hr3, _⟩)
      go_ret
      exact gives_trim HI.out.2.1 (by rw [HE.out, HV.out.1, HV.out.2]) hr3 hb

theorem mul_calls (A B : Option Addr) (n m c d : Nat) (xs ys : List Nat) (w : World) (h : Rd w A n c xs) (h2 : Rd w B m d ys) (hn : n ≤ 1048576) (hm : m ≤ 1048576) :
    Calls Tryz.prog 45 #[.slice A n c, .slice B m d] w (Gives w (dg (val xs * val ys))) := by
  rcases Nat.lt_or_ge (tlen ys) (tlen xs) with hl | hl
  · rw [Nat.mul_comm]
    exact mul_calls_gt B A m n d c ys xs w h2 h hm hn hl
  · exact mul_calls_le A B n m c d xs ys w h h2 hn hm hl
end Go.Proofs.YtnddhohjfjlaiaaGreatDoor

/-
  Of, Valid, low, Uint, Bits and their specifications.
-/
namespace Go.Proofs.YtnddhohjfjlaiaaGreatDoor
open Go.RowKit
set_option linter.unusedVariables false
set_option linter.unusedSimpArgs false

theorem or_nat {a b : Nat} (ha : a < 4294967296) : a ||| b * 4294967296 = a + 4294967296 * b := by
  have := Nat.two_pow_add_eq_or_of_lt (i := 32) (b := a) (by simpa using ha) b
  rw [Nat.or_comm, Nat.mul_comm b]
  simp at this
  omega
theorem or_hi {a b : Nat} (ha : a < 4294967296) (hb : b < 4294967296) : bits .or .u64 (a : Int) ((b : Int) * 4294967296) = ((a + 4294967296 * b : Nat) : Int) := by
  have h := u64_or_nat a (b * 4294967296) (by omega) (by omega)
  rw [or_nat ha] at h
  rw [← h]
  simp
theorem or_lo {a b : Nat} (ha : a < 4294967296) (hb : b < 4294967296) : bits .or .u64 ((b : Int) * 4294967296) (a : Int) = ((a + 4294967296 * b : Nat) : Int) := by
  have h := u64_or_nat (b * 4294967296) a (by omega) (by omega)
  rw [Nat.or_comm, or_nat ha] at h
  rw [← h]
  simp
theorem rmake_at (A : Option Addr) (n c : Nat) (xs : List Nat) (w : World) (N : Nat) (hv : val xs = N) (h : Rd w A n c xs) (hn : n ≤ 4194304) :
    Calls Tryz.prog 82 #[.slice A n c] w (Gives w (dg N)) := by
  subst hv
  exact rmake_calls A n c xs w h hn
theorem below_then {B : Nat} {w w1 w2 : World} (h : Below B w w1) (hB : B ≤ w.heap.size) (h2 : Below w1.heap.size w1 w2) : Below B w w2 := h.trans (h2.mono (Nat.le_trans hB h.size))
theorem limb_int (A : Option Addr) (n c : Nat) (xs : List Nat) (w : World) (i : Int) (k : Nat) (hi : i = (k : Int)) (h : Rd w A n c xs) :
    Calls Tryz.prog 100 #[.slice A n c, .int .i64 i] w fun e w' => e = .returned (.int .u64 (lim xs k : Nat)) ∧ w = w' := by
  subst hi
  exact limb_calls A n c xs w k h

theorem low_calls (A : Option Addr) (n c : Nat) (xs : List Nat) (w : World) (h : Rd w A n c xs) :
    Calls Tryz.prog 92 #[.slice A n c] w fun e w' => e = .returned (.int .u64 (lim xs 0 + 4294967296 * lim xs 1 : Nat)) ∧ w = w' := by
  have h0 := h.sm.lim 0
  have h1 := h.sm.lim 1
  go_enter Tryz.func92, Tryz.ntmps92
  go_wp2_with (first
    | (go_at_call 100; (with_reducible refine (limb_int A n c xs _ 0 0 rfl h).mono ?_); rintro e w' ⟨rfl, rfl⟩)
    | (go_at_call 100; (with_reducible refine (limb_int A n c xs _ 1 1 rfl h).mono ?_); rintro e w' ⟨rfl, rfl⟩))
  go_ret
  exact ⟨ret_int (or_hi h0 h1), rfl⟩
theorem of_calls (x : Nat) (w : World) (hx : x ≤ 18446744073709551615) :
    Calls Tryz.prog 33 #[.int .u64 (x : Int)] w (Gives w (dg x)) := by
  have hsm : Sm [x % 4294967296, x / 4294967296] := (Sm.nil.cons (by omega)).cons (by omega)
  have hv : val [x % 4294967296, x / 4294967296] = x := by simp [val]; omega
  have hr := blk_rd0 (n := 2) (c := 2) (w := w.alloc (.cells #[.int .u32 ((x : Int) % 4294967296), .int .u32 ((x : Int) / 4294967296)] 57)) (g := w.heap.size) (xs := [x % 4294967296, x / 4294967296])
    (Blk.new w _) hsm rfl (Nat.le_refl _)
  have HV := hide hv
  clear hv
  go_enter Tryz.func33, Tryz.ntmps33
  go_wp2_with (go_at_call 53; refine (trim_calls _ _ _ _ _ hr (by omega)).mono ?_; rintro e w' ⟨A1, c1, rfl, rfl, hr3, _⟩)
  go_ret
  exact gives_trim hsm HV.out hr3 ((Below.refl _ _).alloc (Nat.le_refl _) _)
theorem rof_calls (x : Nat) (w : World) (hx : x ≤ 18446744073709551615) :
    Calls Tryz.prog 67 #[.int .u64 (x : Int)] w (Gives w (dg x)) := by
  have hsm : Sm [x % 4294967296, x / 4294967296] := (Sm.nil.cons (by omega)).cons (by omega)
  have hv : val [x % 4294967296, x / 4294967296] = x := by simp [val]; omega
  have hr := blk_rd0 (n := 2) (c := 2) (w := w.alloc (.cells #[.int .u32 ((x : Int) % 4294967296), .int .u32 ((x : Int) / 4294967296)] 57)) (g := w.heap.size) (xs := [x % 4294967296, x / 4294967296])
    (Blk.new w _) hsm rfl (Nat.le_refl _)
  have HV := hide hv
  clear hv
  go_enter Tryz.func67, Tryz.ntmps67
  go_wp2_with (go_at_call 82; refine (rmake_at _ _ _ _ _ x HV.out hr (by omega)).mono ?_; rintro e w' ⟨A1, c1, rfl, hr3, hb⟩)
  go_ret
  exact ⟨A1, c1, rfl, hr3, below_then ((Below.refl _ _).alloc (Nat.le_refl _) _) (Nat.le_refl _) hb⟩
theorem top_bool {xs : List Nat} {n : Nat} {b : Bool} (hl : xs.length = n) (hn : 0 < n) (hb : decide (tlen xs = n) = b) : ((lim xs (n - 1) : Int) != 0) = b := by
  rw [← hb]
  by_cases h : lim xs (n - 1) = 0
  · have : tlen xs ≠ n := fun e => by have := tlen_top (xs := xs) (by omega); rw [e] at this; exact this h
    simp [h, this]
  · have : tlen xs = n := tlen_of (fun j hj => lim_of_ge (by omega)) (.inr h)
    simp [this]; omega
end Go.Proofs.YtnddhohjfjlaiaaGreatDoor

/-
  Uint, Bits and their specifications.
-/
namespace Go.Proofs.YtnddhohjfjlaiaaGreatDoor
open Go.RowKit
set_option linter.unusedVariables false
set_option linter.unusedSimpArgs false

theorem low_at (A : Option Addr) (n c : Nat) (xs : List Nat) (w : World) (v : Nat) (hv : lim xs 0 + 4294967296 * lim xs 1 = v) (h : Rd w A n c xs) :
    Calls Tryz.prog 92 #[.slice A n c] w fun e w' => e = .returned (.int .u64 (v : Nat)) ∧ w = w' := by
  subst hv
  exact low_calls A n c xs w h
theorem Rd.get0 {w : World} {A : Option Addr} {n c : Nat} {xs : List Nat} (h : Rd w A n c xs) (hk : 0 < n) : ∃ b off, A = some ⟨b, off, none⟩ ∧ b < w.heap.size ∧ w.cell? ⟨b, off, none⟩ = some (.int .u32 (lim xs 0 : Nat)) := by
  obtain ⟨b, off, hA, hb, hc⟩ := h.get hk
  exact ⟨b, off, hA, hb, hc⟩
theorem Rd.get01 {w : World} {A : Option Addr} {n c : Nat} {xs : List Nat} (h : Rd w A n c xs) (hk : 1 < n) : ∃ b off, A = some ⟨b, off, none⟩ ∧ b < w.heap.size ∧ w.cell? ⟨b, off, none⟩ = some (.int .u32 (lim xs 0 : Nat)) ∧
    w.cell? ⟨b, off + 1, none⟩ = some (.int .u32 (lim xs 1 : Nat)) := by
  obtain ⟨b, off, hA, hb, hc⟩ := h.at_ (by omega)
  exact ⟨b, off, hA, hb, hc 0 (by omega), hc 1 hk⟩
theorem val_two {xs : List Nat} (h : xs.length ≤ 2) : lim xs 0 + 4294967296 * lim xs 1 = val xs := by
  match xs, h with
  | [], _ => rfl
  | [x], _ => rfl
  | [x, y], _ => rfl
  | _ :: _ :: _ :: _, h => simp at h
/-- A number that fits in 64 bits, and whether it does. -/
def u64Of (xs : List Nat) : Nat × Bool := if tlen xs ≤ 2 then (val xs, true) else (0, false)
theorem ruint_calls (A : Option Addr) (n c : Nat) (xs : List Nat) (w : World) (v : Nat) (b : Bool) (hvb : u64Of xs = (v, b)) (h : Rd w A n c xs) (hn : n ≤ 1048576) :
    Calls Tryz.prog 101 #[.slice A n c] w fun e w' => e = .returned (.tuple #[.int .u64 (v : Int), .bool b]) ∧ Below w.heap.size w w' := by
  have hn4 : n ≤ 4194304 := by omega
  have hlen := len_dg_val h.sm
  have hval := val_dg (val xs)
  obtain ⟨L, hL⟩ : ∃ L, L = (dg (val xs)).length := ⟨_, rfl⟩
  unfold u64Of at hvb
  rw [← hlen, ← hL] at hvb
  have HL := hide hL
  clear hlen hval hL
  by_cases ht : L ≤ 2
  · rw [if_pos ht] at hvb
    injection hvb with h1 h2
    have hv : lim (dg (val xs)) 0 + 4294967296 * lim (dg (val xs)) 1 = v := by rw [val_two (by rw [← HL.out]; exact ht), val_dg, h1]
    subst h2
    have HV := hide hv
    clear hv h1
    have hmk : Calls Tryz.prog 82 #[.slice A n c] w fun e w' => ∃ A1 c1, e = .returned (.slice A1 L c1) ∧ Rd w' A1 L c1 (dg (val xs)) ∧ Below w.heap.size w w' := by
      rw [HL.out]; exact rmake_calls A n c xs w h hn4
    have HM := hide hmk
    clear hmk
    have hs0 := (sm_dg (val xs)).lim 0
    have hs1 := (sm_dg (val xs)).lim 1
    match L, ht with
    | 0, _ =>
      have hl1 : lim (dg (val xs)) 0 = 0 := lim_of_ge (by rw [← HL.out]; omega)
      have hl2 : lim (dg (val xs)) 1 = 0 := lim_of_ge (by rw [← HL.out]; omega)
      have hv0 : v = 0 := by have := HV.out; omega
      subst hv0
      clear hl1 hl2
      go_enter Tryz.func101, Tryz.ntmps101
      go_wp2_with (go_at_call 82; refine (unhide HM).mono ?_; rintro e w' ⟨A1, c1, rfl, hr1, hb1⟩)
      go_ret2
      exact ⟨rfl, hb1⟩
    | 1, _ =>
      have hl2 : lim (dg (val xs)) 1 = 0 := lim_of_ge (by rw [← HL.out]; omega)
      have hv0 : v = lim (dg (val xs)) 0 := by have := HV.out; omega
      subst hv0
      clear hl2
      go_enter Tryz.func101, Tryz.ntmps101
      go_wp2_with (go_at_call 82; refine (unhide HM).mono ?_; rintro e w' ⟨A1, c1, rfl, hr1, hb1⟩; obtain ⟨b0, off, rfl, _, hc0⟩ := hr1.get0 (by omega))
      go_ret2
      exact ⟨rfl, hb1⟩
    | 2, _ =>
      go_enter Tryz.func101, Tryz.ntmps101
      go_wp2_with (go_at_call 82; refine (unhide HM).mono ?_; rintro e w' ⟨A1, c1, rfl, hr1, hb1⟩; obtain ⟨b0, off, rfl, _, hca, hcb⟩ := hr1.get01 (by omega))
      go_quiet (fail)
      go_wp2
      go_ret2
      refine ⟨?_, below_drewN hb1 _⟩
      show Ending.returned (.tuple #[.int .u64 (bits .or .u64 ((lim (dg (val xs)) 0 : Nat) : Int) (((lim (dg (val xs)) 1 : Nat) : Int) * 4294967296)), .bool true]) = _
      rw [or_hi hs0 hs1, HV.out]
  · rw [if_neg ht] at hvb
    injection hvb with h1 h2
    subst h1 h2
    have hmk : Calls Tryz.prog 82 #[.slice A n c] w fun e w' => ∃ A1 c1, e = .returned (.slice A1 L c1) ∧ Rd w' A1 L c1 (dg (val xs)) ∧ Below w.heap.size w w' := by
      rw [HL.out]; exact rmake_calls A n c xs w h hn4
    have HM := hide hmk
    clear hmk
    have e0 : ((L : Int) == 0) = false := by simp; omega
    have e1 : ((L : Int) == 1) = false := by simp; omega
    have e2 : ((L : Int) == 2) = false := by simp; omega
    go_enter Tryz.func101, Tryz.ntmps101
    go_wp2_with (go_at_call 82; refine (unhide HM).mono ?_; rintro e w' ⟨A1, c1, rfl, hr1, hb1⟩)
    go_ret2
    exact ⟨rfl, hb1⟩

/-- How many bits a number has. -/
def nb (xs : List Nat) : Nat := if tlen xs = 0 then 0 else 32 * (tlen xs - 1) + Lib.bitLen (lim xs (tlen xs - 1))
theorem bits_calls (A : Option Addr) (n c : Nat) (xs : List Nat) (w : World) (r : Nat) (hr : nb xs = r) (h : Rd w A n c xs) (hn : n ≤ 1048576) :
    Calls Tryz.prog 49 #[.slice A n c] w fun e w' => e = .returned (.int .i64 (r : Int)) ∧ w = w' := by
  have hn4 : n ≤ 4194304 := by omega
  unfold nb at hr
  by_cases h0 : tlen xs = 0
  · rw [if_pos h0] at hr
    subst hr
    have e0 : (((tlen xs : Nat) : Int) == 0) = true := by simp; omega
    have H0 := hide h0
    clear h0
    go_enter Tryz.func49, Tryz.ntmps49
    go_wp2_with (go_at_call 53; (with_reducible refine (trim_calls A n c xs _ h hn4).mono ?_); rintro e w' ⟨A1, c1, rfl, rfl, hr1, _⟩)
    go_ret
    exact ⟨rfl, rfl⟩
  · rw [if_neg h0] at hr
    have e0 : (((tlen xs : Nat) : Int) == 0) = false := by simp; omega
    have ht : tlen xs ≤ 1048576 := by have := tlen_le xs; have := h.len; omega
    have ht0 : 0 < tlen xs := by omega
    have hs := h.sm.lim (tlen xs - 1)
    have hle : Lib.bitLen (lim xs (tlen xs - 1)) ≤ 32 := Lib.bitLen_le _ 32 (by omega) (by omega)
    obtain ⟨q, hq⟩ : ∃ q, q = Lib.bitLen (lim xs (tlen xs - 1)) := ⟨_, rfl⟩
    rw [← hq] at hle hr
    have hcall : ∀ W, Calls Tryz.prog 75 #[.int .u32 ((lim xs (tlen xs - 1) : Nat) : Int)] W fun e w' => e = .returned (.int .i64 (q : Int)) ∧ w' = W := by
      intro W
      have := Tryz.bits_Len32 ((lim xs (tlen xs - 1) : Nat) : Int) W (by omega) (by omega)
      rw [Int.toNat_natCast, ← hq] at this
      exact this
    have HC := hide hcall
    have HR := hide hr
    clear hcall hr hq h0
    go_enter Tryz.func49, Tryz.ntmps49
    go_wp2_with (first
      | (go_at_call 53; (with_reducible refine (trim_calls A n c xs _ h hn4).mono ?_); rintro e w' ⟨A1, c1, rfl, rfl, hr1, -⟩; obtain ⟨b0, off, rfl, -, hc0⟩ := hr1.get (k := tlen xs - 1) (by omega); rw [lim_take (by omega)] at hc0)
      | (go_at_call 75; refine ((unhide HC) _).mono ?_; rintro e w' ⟨rfl, rfl⟩))
    go_ret
    exact ⟨ret_int (by rw [← HR.out]; omega), rfl⟩
theorem rbits_calls (A : Option Addr) (n c : Nat) (xs : List Nat) (w : World) (r : Nat) (hr : nb xs = r) (h : Rd w A n c xs) (hn : n ≤ 1048576) :
    Calls Tryz.prog 83 #[.slice A n c] w fun e w' => e = .returned (.int .i64 (r : Int)) ∧ Below w.heap.size w w' := by
  have hn4 : n ≤ 4194304 := by omega
  have hmk : Calls Tryz.prog 82 #[.slice A n c] w fun e w' => ∃ A1 c1, e = .returned (.slice A1 (tlen xs) c1) ∧ Rd w' A1 (tlen xs) c1 (xs.take (tlen xs)) ∧ Below w.heap.size w w' := by
    have := rmake_calls A n c xs w h hn4
    unfold Gives at this
    rw [len_dg_val h.sm, dg_val h.sm] at this
    exact this
  have HM := hide hmk
  clear hmk
  unfold nb at hr
  by_cases h0 : tlen xs = 0
  · rw [if_pos h0] at hr
    subst hr
    have e0 : (((tlen xs : Nat) : Int) == 0) = true := by simp; omega
    have H0 := hide h0
    clear h0
    go_enter Tryz.func83, Tryz.ntmps83
    go_wp2_with (go_at_call 82; refine (unhide HM).mono ?_; rintro e w' ⟨A1, c1, rfl, hr1, hb1⟩)
    go_ret
    exact ⟨rfl, hb1⟩
  · rw [if_neg h0] at hr
    have e0 : (((tlen xs : Nat) : Int) == 0) = false := by simp; omega
    have ht : tlen xs ≤ 1048576 := by have := tlen_le xs; have := h.len; omega
    have ht0 : 0 < tlen xs := by omega
    have hs := h.sm.lim (tlen xs - 1)
    have hle : Lib.bitLen (lim xs (tlen xs - 1)) ≤ 32 := Lib.bitLen_le _ 32 (by omega) (by omega)
    have hr40 : r ≤ 40000000 := by omega
    have HR := hide hr
    clear hr h0 hle
    go_enter Tryz.func83, Tryz.ntmps83
    go_wp2_with (go_at_call 82; refine (unhide HM).mono ?_; rintro e w' ⟨A1, c1, rfl, hr1, hb1⟩; obtain ⟨b0, off, rfl, _, hc0⟩ := hr1.get (k := tlen xs - 1) (by omega); rw [lim_take (by omega)] at hc0)
    go_loopw [3, 4] (fun k x wr => ∃ q y : Nat, k = .int .i64 q ∧ x = .int .u32 y ∧ y < 4294967296 ∧ q ≤ 40000000 ∧ Hid (q + Lib.bitLen y = r) ∧ Below w.heap.size w wr) (fun _ x _ => (intOf x).toNat)
    case atStart => exact ⟨32 * (tlen xs - 1), lim xs (tlen xs - 1), congrArg _ (by omega), rfl, hs, by omega, HR.out, hb1⟩
    case round =>
      obtain ⟨q, y, rfl, rfl, hy, hq, hqy, hb⟩ := hrel
      by_cases hy0 : 0 < y
      · have hst := Lib.bitLen_half y (by omega) (by omega)
        have hq2 : q + 1 + Lib.bitLen (y / 2) = r := by have := hqy.out; omega
        have hq3 : q + 1 ≤ 40000000 := by omega
        have HQ := hide hq2
        clear hst hq2
        go_wp2
        go_roundw
        case rel => exact ⟨q + 1, y / 2, by go_num, by go_num, by omega, hq3, HQ, hb⟩
        case measure => simp [intOf]; omega
      · obtain rfl : y = 0 := by omega
        go_wp2
        go_ret
        exact ⟨ret_int (by have := hqy.out; have e : Lib.bitLen 0 = 0 := by decide
                           omega), hb⟩
end Go.Proofs.YtnddhohjfjlaiaaGreatDoor

/-
  Plain facts on shifted lists of limbs.
-/
namespace Go.Proofs.YtnddhohjfjlaiaaGreatDoor
set_option linter.unusedVariables false
set_option linter.unusedSimpArgs false

theorem pow32 {s : Nat} (hs : s ≤ 32) : 2 ^ s * 2 ^ (32 - s) = 4294967296 := by
  rw [← Nat.pow_add, show s + (32 - s) = 32 by omega]
theorem pw_pow (q : Nat) : pw q = 2 ^ (32 * q) := by
  induction q with
  | zero => rfl
  | succ q ih => rw [pw, ih, Nat.mul_add, Nat.pow_add, Nat.mul_comm]
theorem pow_split (k : Nat) : 2 ^ k = pw (k / 32) * 2 ^ (k % 32) := by
  rw [pw_pow, ← Nat.pow_add]
  congr 1
  omega
theorem or_add {s h y : Nat} (hh : h < 2 ^ s) : h ||| 2 ^ s * y = h + 2 ^ s * y := by
  have := Nat.two_pow_add_eq_or_of_lt (i := s) (b := h) hh y
  rw [Nat.or_comm]
  omega
/-- One limb shifted by s bits. -/
theorem sh_word {x s h : Nat} (hs : s < 32) (hx : x < 4294967296) (hh : h < 2 ^ s) :
    x * 2 ^ s < 9223372036854775808 ∧ h ||| (x * 2 ^ s) % 4294967296 = h + (x * 2 ^ s) % 4294967296 ∧ h + (x * 2 ^ s) % 4294967296 < 4294967296 ∧ (x * 2 ^ s) / 4294967296 < 2 ^ s := by
  have hp := pow32 (s := s) (by omega)
  have hpos : 0 < 2 ^ (32 - s) := Nat.two_pow_pos _
  have hps : 0 < 2 ^ s := Nat.two_pow_pos _
  have hm : (x * 2 ^ s) % 4294967296 = 2 ^ s * (x % 2 ^ (32 - s)) := by rw [← hp, Nat.mul_comm x, Nat.mul_mod_mul_left]
  have h31 : 2 ^ s ≤ 2147483648 := by
    have := Nat.pow_le_pow_right (n := 2) (by omega) (show s ≤ 31 by omega)
    simpa using this
  refine ⟨?_, ?_, ?_, ?_⟩
  · have := Nat.mul_le_mul (show x ≤ 4294967295 by omega) h31
    omega
  · rw [hm]; exact or_add hh
  · rw [hm]
    have h1 : x % 2 ^ (32 - s) + 1 ≤ 2 ^ (32 - s) := Nat.mod_lt _ hpos
    have h2 := Nat.mul_le_mul_left (2 ^ s) h1
    rw [hp, Nat.mul_add, Nat.mul_one] at h2
    omega
  · rw [← hp, Nat.mul_comm x, Nat.mul_div_mul_left _ _ hps]
    apply Nat.div_lt_of_lt_mul
    rw [Nat.mul_comm, hp]
    exact hx
/-- The state of a number that is being shifted left by 32 q + s bits: j limbs are done. -/
def ShInv (S xs : List Nat) (q s n j : Nat) : Prop :=
  S.length = q + n + 1 ∧ Sm S ∧ (∀ i, i < q → lim S i = 0) ∧ lim S (q + j) < 2 ^ s ∧ pv (S.drop q) (j + 1) = pv xs j * 2 ^ s
theorem sh_start (xs : List Nat) (q s n : Nat) : ShInv (List.replicate (q + n + 1) 0) xs q s n 0 :=
  ⟨List.length_replicate, Sm.replicate _, fun i _ => lim_replicate _ _, by rw [lim_replicate]; exact Nat.two_pow_pos _,
    by rw [pv_succ, pv_zero, lim_drop, lim_replicate, pv_zero]; simp⟩
theorem sh_step {S xs : List Nat} {q s n j : Nat} (hs : s < 32) (hj : j < n) (hx : lim xs j < 4294967296) (h : ShInv S xs q s n j) :
    ShInv ((S.set (q + j) (lim S (q + j) + (lim xs j * 2 ^ s) % 4294967296)).set (q + (j + 1)) ((lim xs j * 2 ^ s) / 4294967296)) xs q s n (j + 1) := by
  obtain ⟨h1, h2, h3, h4, h5⟩ := h
  obtain ⟨w1, w2, w3, w4⟩ := sh_word hs hx h4
  have hs31 : 2 ^ s ≤ 4294967296 := by rw [← pow32 (s := s) (by omega)]; exact Nat.le_mul_of_pos_right _ (Nat.two_pow_pos _)
  refine ⟨by rw [List.length_set, List.length_set, h1], (h2.set _ w3).set _ (by omega), fun i hi => ?_, ?_, ?_⟩
  · rw [lim_set_ne (by omega), lim_set_ne (by omega)]; exact h3 i hi
  · rw [lim_set_eq (by rw [List.length_set]; omega)]; exact w4
  · rw [pv_drop_set (by rw [List.length_set]; omega), pv_drop_set (by omega), pv_succ xs, Nat.add_mul, ← h5, pv_succ (S.drop q), lim_drop, pw]
    have e : pw j * (lim xs j * 2 ^ s) = pw j * ((lim xs j * 2 ^ s) % 4294967296) + pw j * (4294967296 * ((lim xs j * 2 ^ s) / 4294967296)) := by rw [← Nat.mul_add, Nat.mod_add_div]
    rw [← Nat.mul_assoc (pw j) 4294967296, Nat.mul_comm (pw j) 4294967296] at e
    rw [Nat.mul_add, Nat.mul_assoc (pw j) (lim xs j) (2 ^ s)]
    omega
theorem sh_end {S xs : List Nat} {k n : Nat} (hn : xs.length = n) (h : ShInv S xs (k / 32) (k % 32) n n) : val S = val xs * 2 ^ k := by
  obtain ⟨h1, h2, h3, h4, h5⟩ := h
  rw [← pv_full, h1, Nat.add_assoc, pv_split, h5, pv_congr (xs := S) (ys := []) (fun i hi => by rw [h3 i hi]; rfl), pv_nil, pv_len (by omega), pow_split k, Nat.zero_add]
  rw [Nat.mul_left_comm]

/-! ### To the right -/
theorem val_drop (xs : List Nat) (hs : Sm xs) (i : Nat) : val (xs.drop i) = val xs / pw i := by
  rcases Nat.lt_or_ge i xs.length with h | h
  · have h1 := val_split xs i (by omega)
    have h2 := pv_lt hs i
    rw [h1, Nat.add_comm, Nat.mul_add_div (pw_pos i), Nat.div_eq_of_lt h2, Nat.add_zero]
  · rw [List.drop_of_length_le h, Nat.div_eq_of_lt]
    · rfl
    · exact Nat.lt_of_lt_of_le (val_lt hs) (pw_mono h)
theorem val_two_more (ys : List Nat) : val ys = lim ys 0 + 4294967296 * lim ys 1 + 18446744073709551616 * val (ys.drop 2) := by
  match ys with
  | [] => rfl
  | [x] => simp [val, lim]
  | x :: y :: r => simp [val, lim]; omega
/-- One limb of a number shifted right by s bits. -/
theorem shr_word {ys : List Nat} {s : Nat} (hs : s < 32) (hsm : Sm ys) (i : Nat) :
    (val ys / 2 ^ s) / pw i % 4294967296 = (lim ys i + 4294967296 * lim ys (i + 1)) / 2 ^ s % 4294967296 := by
  rw [Nat.div_div_eq_div_mul, Nat.mul_comm, ← Nat.div_div_eq_div_mul, ← val_drop ys hsm i, val_two_more (ys.drop i), lim_drop, lim_drop, Nat.add_zero]
  have hp := pow32 (s := s) (by omega)
  have e : (18446744073709551616 : Nat) = 2 ^ s * (4294967296 * 2 ^ (32 - s)) := by
    rw [Nat.mul_left_comm, hp]
  rw [e, Nat.mul_assoc, Nat.add_mul_div_left _ _ (Nat.two_pow_pos s), Nat.mul_assoc, Nat.add_mul_mod_self_left]
/-- The state of a number that is being shifted right: i limbs are done. -/
def ShrInv (S ys : List Nat) (s n i : Nat) : Prop := S.length = n ∧ Sm S ∧ pv S i = val ys / 2 ^ s % pw i
theorem shr_start (ys : List Nat) (s n : Nat) : ShrInv (List.replicate n 0) ys s n 0 := ⟨List.length_replicate, Sm.replicate _, by rw [pv_zero, pw, Nat.mod_one]⟩
theorem shr_step {S ys : List Nat} {s n i v : Nat} (hs : s < 32) (hsm : Sm ys) (hi : i < n) (hv : v = (lim ys i + 4294967296 * lim ys (i + 1)) / 2 ^ s % 4294967296) (h : ShrInv S ys s n i) :
    ShrInv (S.set i v) ys s n (i + 1) := by
  obtain ⟨h1, h2, h3⟩ := h
  refine ⟨by rw [List.length_set, h1], h2.set _ (by omega), ?_⟩
  rw [pv_set (by omega), h3, hv, ← shr_word hs hsm i, pw, Nat.mul_comm 4294967296, Nat.mod_mul]
theorem shr_end {S ys : List Nat} {s n : Nat} (hsm : Sm ys) (hn : ys.length = n) (h : ShrInv S ys s n n) : val S = val ys / 2 ^ s := by
  obtain ⟨h1, h2, h3⟩ := h
  have hl := val_lt hsm
  rw [hn] at hl
  rw [← pv_full, h1, h3, Nat.mod_eq_of_lt]
  exact Nat.lt_of_le_of_lt (Nat.div_le_self _ _) hl
theorem shr_whole {xs : List Nat} (hs : Sm xs) (k : Nat) : val (xs.drop (k / 32)) / 2 ^ (k % 32) = val xs / 2 ^ k := by
  rw [val_drop xs hs, Nat.div_div_eq_div_mul, ← pow_split]
theorem shr_zero {xs : List Nat} (hs : Sm xs) {k : Nat} (h : xs.length ≤ k / 32) : val xs / 2 ^ k = 0 := by
  rw [← shr_whole hs, List.drop_of_length_le h]
  simp [val]
end Go.Proofs.YtnddhohjfjlaiaaGreatDoor

/-
  Shifts.
-/
namespace Go.Proofs.YtnddhohjfjlaiaaGreatDoor
open Go.RowKit
set_option linter.unusedVariables false
set_option linter.unusedSimpArgs false

theorem shiftLeft_calls (A : Option Addr) (n c : Nat) (xs : List Nat) (w : World) (k : Nat) (h : Rd w A n c xs) (hn : n ≤ 1048576) (hk : k ≤ 1048576) :
    Calls Tryz.prog 54 #[.slice A n c, .int .i64 (k : Int)] w fun e w' => ∃ S : List Nat, e = .returned (.slice (some ⟨w.heap.size, 0, none⟩) (k / 32 + n + 1) (k / 32 + n + 1)) ∧ Blk w' w.heap.size (arr S) ∧ S.length = k / 32 + n + 1 ∧ Sm S ∧ val S = val xs * 2 ^ k ∧ Below w.heap.size w w' := by
  have hmk := fun W => run_mk 23 (.inr rfl) (k / 32 + n + 1) ((k : Int) / 32 + (n : Int) + 1) (by omega) (by omega) W
  go_enter Tryz.func54, Tryz.ntmps54
  go_wp2
  go_loopw [23] (fun i wr => ∃ (j : Nat) (S : List Nat), j ≤ n ∧ i = .int .i64 j ∧ Below w.heap.size w wr ∧ Blk wr w.heap.size (arr S) ∧ Hid (ShInv S xs (k / 32) (k % 32) n j)) (fun i _ => n - (intOf i).toNat)
  case atStart => exact ⟨0, _, by omega, rfl, (Below.refl _ _).alloc (Nat.le_refl _) _, Blk.new _ _, sh_start _ _ _ _⟩
  case round =>
    obtain ⟨j, S, hj, rfl, hb, hbl, HI⟩ := hrel
    by_cases hjn : j < n
    · have hx := h.sm.lim j
      have hl := HI.out.1
      have hc1 : wr.cell? ⟨w.heap.size, k / 32 + j, none⟩ = some (.int .u32 (lim S (k / 32 + j) : Nat)) := blk_cell hbl (by omega)
      have hf1 := hbl.frozen (k / 32 + j)
      obtain ⟨w1, w2, w3, w4⟩ := sh_word (Nat.mod_lt k (by omega)) hx HI.out.2.2.2.1
      have hs31 : 2 ^ (k % 32) ≤ 4294967296 := by rw [← pow32 (s := k % 32) (by omega)]; exact Nat.le_mul_of_pos_right _ (Nat.two_pow_pos _)
      have hstep := sh_step (Nat.mod_lt k (by omega)) hjn hx HI.out
      have hh := HI.out.2.1.lim (k / 32 + j)
      obtain ⟨wd, hwd⟩ : ∃ wd, wd = lim xs j * 2 ^ (k % 32) := ⟨_, rfl⟩
      rw [← hwd] at w1 w2 w3 w4 hstep
      have hwd1 : IntKind.u64.wrap ((lim xs j : Int) * 2 ^ (k % 32)) = (wd : Int) := by
        rw [hwd, IntWalk.u64_in]
        · simp
        · have : ((lim xs j * 2 ^ (k % 32) : Nat) : Int) = (lim xs j : Int) * 2 ^ (k % 32) := by simp
          omega
      obtain ⟨v, hv⟩ : ∃ v, v = lim S (k / 32 + j) + wd % 4294967296 := ⟨_, rfl⟩
      have hor : bits .or .u32 (lim S (k / 32 + j) : Int) ((wd : Int) % 4294967296) = (v : Int) := by
        have := u32_or_nat (lim S (k / 32 + j)) (wd % 4294967296) hh (by omega)
        rw [w2, ← hv] at this
        rw [← this]
        simp
      rw [← hv] at w3 hstep
      have hbl2 := blk_set hbl (k / 32 + j) v
      have hc2 : (wr.setCell ⟨w.heap.size, k / 32 + j, none⟩ (.int .u32 (v : Int))).cell? ⟨w.heap.size, k / 32 + (j + 1), none⟩ = some (.int .u32 (lim (S.set (k / 32 + j) v) (k / 32 + (j + 1)) : Nat)) := blk_cell hbl2 (by rw [List.length_set]; omega)
      have hf2 := hbl2.frozen (k / 32 + (j + 1))
      have hbl3 := blk_set hbl2 (k / 32 + (j + 1)) (wd / 4294967296)
      have hw4 : wd / 4294967296 < 4294967296 := by omega
      have HS := hide (And.intro hstep hbl3)
      clear hstep hbl3 hwd hv w2 w4 hl hs31 hbl2
      obtain ⟨b, off, hA, -, hc⟩ := (h.below hb).get hjn
      subst hA
      go_wp2
      go_roundw
      case rel =>
        exact ⟨j + 1, _, by omega, by go_num, (hb.setCell (Nat.le_refl _) _).setCell (Nat.le_refl _) _, HS.out.2, HS.out.1⟩
      case measure => simp [intOf]; omega
    · obtain rfl : n = j := by omega
      have HE := hide (sh_end h.len HI.out)
      go_wp2
      go_ret
      exact ⟨S, rfl, hbl, HI.out.1, HI.out.2.1, HE.out, hb⟩
end Go.Proofs.YtnddhohjfjlaiaaGreatDoor

/-
  Shl and Shr.
-/
namespace Go.Proofs.YtnddhohjfjlaiaaGreatDoor
open Go.RowKit
set_option linter.unusedVariables false
set_option linter.unusedSimpArgs false

theorem rd_drop {w : World} {b off n c : Nat} {xs : List Nat} (h : Rd w (some ⟨b, off, none⟩) n c xs) {k : Nat} (hk : k ≤ n) : Rd w (some ⟨b, off + k, none⟩) (n - k) (c - k) (xs.drop k) := by
  refine ⟨by rw [List.length_drop, h.len], h.sm.drop k, by have := h.cap; omega, fun hn => ?_⟩
  obtain ⟨b1, off1, hA, hb, hc⟩ := h.at_ (by omega)
  injection hA with hA
  injection hA with h1 h2
  subst h1 h2
  refine ⟨b, off + k, rfl, hb, fun j hj => ?_⟩
  rw [lim_drop, Nat.add_assoc]
  exact hc (k + j) (by omega)
theorem shl_bad (A : Option Addr) (n c : Nat) (w : World) (k : Int) (hk : k < 0 ∨ 1048576 < k) :
    Calls Tryz.prog 32 #[.slice A n c, .int .i64 k] w (GivesE w [] 2) := by
  by_cases h0 : k < 0
  · clear hk
    go_enter Tryz.func32, Tryz.ntmps32
    go_wp2
    go_ret2
    exact ⟨none, 0, rfl, Rd.empty _ _ _, Below.refl _ _⟩
  · have h1 : 1048576 < k := by omega
    have hd : decide (k < 0) = false := by simp; omega
    clear hk
    go_enter Tryz.func32, Tryz.ntmps32
    go_wp2
    go_ret2
    exact ⟨none, 0, rfl, Rd.empty _ _ _, Below.refl _ _⟩
theorem shr_bad (A : Option Addr) (n c : Nat) (w : World) (k : Int) (hk : k < 0 ∨ 1048576 < k) :
    Calls Tryz.prog 97 #[.slice A n c, .int .i64 k] w (GivesE w [] 2) := by
  by_cases h0 : k < 0
  · clear hk
    go_enter Tryz.func97, Tryz.ntmps97
    go_wp2
    go_ret2
    exact ⟨none, 0, rfl, Rd.empty _ _ _, Below.refl _ _⟩
  · have h1 : 1048576 < k := by omega
    have hd : decide (k < 0) = false := by simp; omega
    clear hk
    go_enter Tryz.func97, Tryz.ntmps97
    go_wp2
    go_ret2
    exact ⟨none, 0, rfl, Rd.empty _ _ _, Below.refl _ _⟩

theorem shl_ok (A : Option Addr) (n c : Nat) (xs : List Nat) (w : World) (k : Nat) (h : Rd w A n c xs) (hn : n ≤ 1048576) (hk : k ≤ 1048576) :
    Calls Tryz.prog 32 #[.slice A n c, .int .i64 (k : Int)] w (GivesE w (dg (val xs * 2 ^ k)) 0) := by
  have hn4 : n ≤ 4194304 := by omega
  have hd1 : decide ((k : Int) < 0) = false := by simp
  have hd2 : decide ((1048576 : Int) < (k : Int)) = false := by simp; omega
  have ht : tlen xs ≤ 1048576 := by have := tlen_le xs; have := h.len; omega
  by_cases h0 : tlen xs = 0
  · have e0 : (((tlen xs : Nat) : Int) == 0) = true := by simp; omega
    have hv : val xs = 0 := tlen_zero_iff.1 h0
    rw [hv, Nat.zero_mul]
    clear h0 hv
    go_enter Tryz.func32, Tryz.ntmps32
    go_wp2_with (go_at_call 53; (with_reducible refine (trim_calls A n c xs _ h hn4).mono ?_); rintro e w' ⟨A1, c1, rfl, rfl, hr1, -⟩)
    go_ret2
    exact ⟨none, 0, rfl, Rd.empty _ _ _, Below.refl _ _⟩
  · have e0 : (((tlen xs : Nat) : Int) == 0) = false := by simp; omega
    have HV := hide (val_trim h.sm)
    clear h0
    go_enter Tryz.func32, Tryz.ntmps32
    go_wp2_with (first
      | (go_at_call 53; (with_reducible refine (trim_calls A n c xs _ h hn4).mono ?_); rintro e w' ⟨A1, c1, rfl, rfl, hr1, -⟩)
      | (go_at_call 54; refine (shiftLeft_calls _ _ _ _ _ k hr1 ht hk).mono ?_; rintro e w' ⟨S, rfl, hbl, hl, hsm, hv, hb⟩; have hr2 := blk_rd0 (c := k / 32 + tlen xs + 1) hbl hsm hl (by omega); have HH := hide (And.intro hl hv); clear hl hv)
      | (go_at_call 53; refine (trim_calls _ _ _ _ _ hr2 (by omega)).mono ?_; rintro e w' ⟨A2, c2, rfl, rfl, hr3, -⟩))
    go_ret2
    refine gives_err (gives_trim hsm ?_ hr3 hb) 0
    rw [HH.out.2, HV.out]

theorem shr_ok (A : Option Addr) (n c : Nat) (xs : List Nat) (w : World) (k : Nat) (h : Rd w A n c xs) (hn : n ≤ 1048576) (hk : k ≤ 1048576) :
    Calls Tryz.prog 97 #[.slice A n c, .int .i64 (k : Int)] w (GivesE w (dg (val xs / 2 ^ k)) 0) := by
  have hn4 : n ≤ 4194304 := by omega
  have hd1 : decide ((k : Int) < 0) = false := by simp
  have hd2 : decide ((1048576 : Int) < (k : Int)) = false := by simp; omega
  have ht : tlen xs ≤ 1048576 := by have := tlen_le xs; have := h.len; omega
  by_cases h0 : k / 32 < tlen xs
  · have hmin : min ((k : Int) / 32) ((tlen xs : Nat) : Int) = (k : Int) / 32 := by omega
    have HV := hide (val_trim h.sm)
    have hmk := fun W => run_mk 23 (.inr rfl) (tlen xs - k / 32) ((tlen xs : Int) - (k : Int) / 32) (by omega) (by omega) W
    have hmk2 := fun W => run_mk 23 (.inr rfl) (tlen xs - k / 32) ((tlen xs - k / 32 : Nat) : Int) (by omega) (by omega) W
    go_enter Tryz.func97, Tryz.ntmps97
    go_wp2_with (go_at_call 53; (with_reducible refine (trim_calls A n c xs _ h hn4).mono ?_); rintro e w' ⟨A1, c1, rfl, rfl, hr1, -⟩; have hc1 := hr1.cap; obtain ⟨b0, off, rfl, hbs, hc0⟩ := hr1.at_ (by omega); have HC0 := hide hc0; clear hc0)
    have hry := rd_drop hr1 (k := k / 32) (by omega)
    have HE := hide (shr_whole (hr1.sm) k)
    clear hr1 HC0
    go_loopw [28] (fun i wr => ∃ (j : Nat) (S : List Nat), j ≤ tlen xs - k / 32 ∧ i = .int .i64 j ∧ Below w.heap.size w wr ∧ Blk wr w.heap.size (arr S) ∧ Hid (ShrInv S ((xs.take (tlen xs)).drop (k / 32)) (k % 32) (tlen xs - k / 32) j)) (fun i _ => tlen xs - k / 32 - (intOf i).toNat)
    case atStart => exact ⟨0, _, by omega, rfl, (Below.refl _ _).alloc (Nat.le_refl _) _, Blk.new _ _, shr_start _ _ _⟩
    case round =>
      obtain ⟨j, S, hj, rfl, hb, hbl, HI⟩ := hrel
      by_cases hjn : j < tlen xs - k / 32
      · have hl := HI.out.1
        have hbc : wr.cell? ⟨w.heap.size, j, none⟩ = some (.int .u32 (lim S j : Nat)) := blk_cell hbl (by omega)
        have hbf := hbl.frozen j
        have hrw := hry.below hb
        have hz := or_hi (hry.sm.lim j) (hry.sm.lim (j + 1))
        have hl1 := hry.sm.lim j
        have hl2 := hry.sm.lim (j + 1)
        obtain ⟨z, hzz⟩ : ∃ z, z = lim ((xs.take (tlen xs)).drop (k / 32)) j + 4294967296 * lim ((xs.take (tlen xs)).drop (k / 32)) (j + 1) := ⟨_, rfl⟩
        rw [← hzz] at hz
        obtain ⟨v, hv⟩ : ∃ v, v = z / 2 ^ (k % 32) % 4294967296 := ⟨_, rfl⟩
        have hv1 : (z : Int) / 2 ^ (k % 32) % 4294967296 = (v : Int) := by rw [hv]; simp
        have hstep := shr_step (v := v) (Nat.mod_lt k (by omega)) hry.sm hjn (by rw [hv, hzz]) HI.out
        have HS := hide hstep
        have HJ := hide (show ((j : Int) + 1) = ((j + 1 : Nat) : Int) by omega)
        clear hstep hv hzz hl
        go_wp2_with (first
          | (go_at_call 100; (with_reducible refine (limb_calls _ _ _ _ _ j hrw).mono ?_); rintro e w' ⟨rfl, rfl⟩)
          | (go_at_call 100; (with_reducible refine (limb_int _ _ _ _ _ _ (j + 1) HJ.out hrw).mono ?_); rintro e w' ⟨rfl, rfl⟩))
        go_roundw
        case rel => exact ⟨j + 1, _, by omega, by go_num, hb.setCell (Nat.le_refl _) _, blk_set hbl j v, HS⟩
        case measure => simp [intOf]; omega
      · obtain rfl : j = tlen xs - k / 32 := by omega
        have hr2 := blk_rd0 (c := tlen xs - k / 32) hbl HI.out.2.1 HI.out.1 (by omega)
        have HF := hide (shr_end hry.sm hry.len HI.out)
        go_wp2_with (go_at_call 53; refine (trim_calls _ _ _ _ _ hr2 (by omega)).mono ?_; rintro e w' ⟨A2, c2, rfl, rfl, hr3, -⟩)
        go_ret2
        refine gives_err (gives_trim HI.out.2.1 ?_ hr3 hb) 0
        rw [HF.out, HE.out, HV.out]
  · have hmin : min ((k : Int) / 32) ((tlen xs : Nat) : Int) = ((tlen xs : Nat) : Int) := by omega
    have hv0 : val xs / 2 ^ k = 0 := by
      rw [← val_trim h.sm]
      exact shr_zero (h.sm.take _) (by rw [List.length_take]; omega)
    rw [hv0]
    clear hv0
    have hmk2 := fun W => run_mk 23 (.inr rfl) 0 0 (by omega) (by omega) W
    go_enter Tryz.func97, Tryz.ntmps97
    go_wp2_with (go_at_call 53; (with_reducible refine (trim_calls A n c xs _ h hn4).mono ?_); rintro e w' ⟨A1, c1, rfl, rfl, hr1, -⟩; have hc1 := hr1.cap; clear hr1)
    all_goals
      refine wp_loop_rounds 1 ?_
      rw [rounds_succ]
      go_wp2_with (go_at_call 53; refine (trim_calls _ 0 0 [] _ (Rd.empty _ _ _) (by omega)).mono ?_; rintro e w' ⟨A2, c2, rfl, rfl, hr3, -⟩)
      go_ret2
      exact gives_err (gives_trim Sm.nil rfl hr3 ((Below.refl _ _).alloc (Nat.le_refl _) _)) 0
end Go.Proofs.YtnddhohjfjlaiaaGreatDoor

/-
  Plain facts on the division of one limb: the estimate, the multiple subtracted, the divisor added back.
-/
namespace Go.Proofs.YtnddhohjfjlaiaaGreatDoor
set_option linter.unusedVariables false
set_option linter.unusedSimpArgs false

/-- rs is t W and less than W more, ys is v W and less than W more. -/
theorem top3 {rs : List Nat} (hs : Sm rs) {p : Nat} (hl : rs.length = p + 3) :
    ∃ lo, lo < pw p ∧ val rs = (lim rs p + 4294967296 * lim rs (p + 1) + 18446744073709551616 * lim rs (p + 2)) * pw p + lo := by
  refine ⟨pv rs p, pv_lt hs p, ?_⟩
  have e1 : pw (p + 1) = 4294967296 * pw p := rfl
  have e2 : pw (p + 2) = 18446744073709551616 * pw p := by rw [pw, e1, ← Nat.mul_assoc]
  rw [← pv_len (k := p + 3) (by omega), pv_succ, pv_succ, pv_succ, e1, e2, Nat.add_mul, Nat.add_mul, Nat.mul_assoc, Nat.mul_assoc, Nat.mul_assoc, Nat.mul_assoc]
  rw [Nat.mul_comm (lim rs p) (pw p), Nat.mul_comm (lim rs (p + 1)) (pw p), Nat.mul_comm (lim rs (p + 2)) (pw p)]
  omega
theorem top2 {ys : List Nat} (hs : Sm ys) {p : Nat} (hl : ys.length = p + 2) :
    ∃ lo, lo < pw p ∧ val ys = (lim ys p + 4294967296 * lim ys (p + 1)) * pw p + lo := by
  refine ⟨pv ys p, pv_lt hs p, ?_⟩
  have e1 : pw (p + 1) = 4294967296 * pw p := rfl
  rw [← pv_len (k := p + 2) (by omega), pv_succ, pv_succ, e1, Nat.add_mul, Nat.mul_assoc, Nat.mul_assoc]
  rw [Nat.mul_comm (lim ys p) (pw p), Nat.mul_comm (lim ys (p + 1)) (pw p)]
  omega
section
variable {R D W t v rl dl : Nat}
theorem est_qv (hW : 0 < W) (hr : R = t * W + rl) (hrl : rl < W) (hd : D = v * W + dl) (hD : 0 < D) : R / D * v ≤ t := by
  have h1 : R / D * D ≤ R := Nat.div_mul_le_self R D
  have h2 : R / D * (v * W) ≤ R / D * D := Nat.mul_le_mul_left _ (by omega)
  rw [← Nat.mul_assoc] at h2
  have h3 : (R / D * v) * W < (t + 1) * W := by rw [Nat.add_mul, Nat.one_mul]; omega
  exact Nat.lt_succ_iff.1 (Nat.lt_of_mul_lt_mul_right h3)
theorem est_up (hW : 0 < W) (hr : R = t * W + rl) (hd : D = v * W + dl) (hdl : dl < W) (hD : 0 < D) {q : Nat} (hq : q ≤ v + 1) (h : q * v ≤ t) : q ≤ R / D + 1 := by
  rcases Nat.eq_zero_or_pos q with h0 | h0
  · rw [h0]; exact Nat.zero_le _
  · obtain ⟨p, rfl⟩ : ∃ p, q = p + 1 := ⟨q - 1, by omega⟩
    have h1 : p * D ≤ R := by
      have h2 : p * D ≤ p * ((v + 1) * W) := Nat.mul_le_mul_left _ (by rw [Nat.add_mul, Nat.one_mul]; omega)
      rw [← Nat.mul_assoc] at h2
      have h3 : p * (v + 1) ≤ t := by
        rw [Nat.mul_add, Nat.mul_one]
        rw [Nat.add_mul, Nat.one_mul] at h
        omega
      have h4 := Nat.mul_le_mul_right W h3
      omega
    have := (Nat.le_div_iff_mul_le hD).2 h1
    omega
end
/-- What the estimate rests on. -/
structure Est (Q f s r0 r1 r2 : Nat) : Prop where
  fB : f < 4294967296
  f2 : 2147483648 ≤ f
  sB : s < 4294967296
  a0 : r0 < 4294967296
  a1 : r1 < 4294967296
  a2 : r2 < 4294967296
  top : r2 ≤ f
  QB : Q < 4294967296
  Qv : Q * (s + 4294967296 * f) ≤ r0 + 4294967296 * r1 + 18446744073709551616 * r2
  fin : ∀ q, q < 4294967296 → q * (s + 4294967296 * f) ≤ r0 + 4294967296 * r1 + 18446744073709551616 * r2 → q ≤ Q + 1
theorem est_of {rs ys : List Nat} {p : Nat} (hr : Sm rs) (hy : Sm ys) (hrl : rs.length = p + 3) (hyl : ys.length = p + 2) (hlt : val rs < 4294967296 * val ys) (hn : 2147483648 ≤ lim ys (p + 1)) :
    Est (val rs / val ys) (lim ys (p + 1)) (lim ys p) (lim rs p) (lim rs (p + 1)) (lim rs (p + 2)) := by
  obtain ⟨rl, h1, h2⟩ := top3 hr hrl
  obtain ⟨dl, h3, h4⟩ := top2 hy hyl
  have hW := pw_pos p
  have b0 := hr.lim p
  have b1 := hr.lim (p + 1)
  have b2 := hr.lim (p + 2)
  have c0 := hy.lim p
  have c1 := hy.lim (p + 1)
  have hD : 0 < val ys := by omega
  refine ⟨c1, hn, c0, b0, b1, b2, ?_, Nat.div_lt_of_lt_mul (by rw [Nat.mul_comm]; exact hlt), est_qv hW h2 h1 h4 hD, fun q hq h => est_up hW h2 h4 h3 hD (by omega) h⟩
  have e : (lim rs p + 4294967296 * lim rs (p + 1) + 18446744073709551616 * lim rs (p + 2)) * pw p < (4294967296 * (lim ys p + 4294967296 * lim ys (p + 1) + 1)) * pw p := by
    rw [Nat.mul_assoc, Nat.add_mul (lim ys p + 4294967296 * lim ys (p + 1)), Nat.one_mul]
    omega
  have := Nat.lt_of_mul_lt_mul_right e
  omega
section
variable {Q f s r0 r1 r2 : Nat}
theorem est_start (h : Est Q f s r0 r1 r2) : Q ≤ (r1 + 4294967296 * r2) / f ∧ (r1 + 4294967296 * r2) / f * f + (r1 + 4294967296 * r2) % f = r1 + 4294967296 * r2 ∧ (r1 + 4294967296 * r2) / f ≤ 8589934592 := by
  have hf := h.f2
  refine ⟨?_, ?_, ?_⟩
  · rw [Nat.le_div_iff_mul_le (by omega)]
    have hq := h.Qv
    rw [Nat.mul_add, Nat.mul_left_comm] at hq
    have := h.a0
    omega
  · rw [Nat.mul_comm]; exact Nat.div_add_mod _ _
  · rw [Nat.div_le_iff_le_mul_add_pred (by omega)]
    have := h.a1
    have := h.a2
    have := Nat.mul_le_mul_right 8589934592 hf
    omega
/-- top = q f + r: the estimate q is too great. -/
theorem est_dec (h : Est Q f s r0 r1 r2) {q r : Nat} (hq : Q ≤ q) (he : q * f + r = r1 + 4294967296 * r2) (hc : 4294967296 ≤ q ∨ r0 + 4294967296 * r < q * s) :
    Q ≤ q - 1 ∧ (q - 1) * f + (r + f) = r1 + 4294967296 * r2 ∧ 0 < q := by
  have hlt : Q < q := by
    rcases hc with hc | hc
    · have := h.QB; omega
    · have hq2 := h.Qv
      rcases Nat.lt_or_ge Q q with h1 | h1
      · exact h1
      · obtain rfl : q = Q := by omega
        rw [Nat.mul_add, Nat.mul_left_comm] at hq2
        omega
  obtain ⟨p, rfl⟩ : ∃ p, q = p + 1 := ⟨q - 1, by omega⟩
  refine ⟨by omega, ?_, by omega⟩
  rw [Nat.add_sub_cancel]
  rw [Nat.add_mul, Nat.one_mul] at he
  omega
/-- It is not too great, or the rest exceeds a limb. -/
theorem est_fin (h : Est Q f s r0 r1 r2) {q r : Nat} (hq : Q ≤ q) (he : q * f + r = r1 + 4294967296 * r2) (hc : 4294967296 ≤ r ∨ (q < 4294967296 ∧ q * s ≤ r0 + 4294967296 * r)) :
    q < 4294967296 ∧ q ≤ Q + 1 := by
  have hqB : q < 4294967296 := by
    rcases hc with hc | hc
    · rcases Nat.lt_or_ge q 4294967296 with h1 | h1
      · exact h1
      · have h2 := Nat.mul_le_mul_right f h1
        have := h.top
        have := h.a1
        omega
    · exact hc.1
  refine ⟨hqB, h.fin q hqB ?_⟩
  rw [Nat.mul_add, Nat.mul_left_comm]
  have hs : q * s ≤ r0 + 4294967296 * r := by
    rcases hc with hc | hc
    · have h1 := Nat.mul_le_mul (show q ≤ 4294967295 by omega) (show s ≤ 4294967295 by have := h.sB; omega)
      omega
    · exact hc.2
  omega
end

/-! ### A multiple subtracted -/
/-- The block S has become T; outside the limbs o to o + k nothing has turned. -/
def Win (S T : List Nat) (o k : Nat) : Prop := T.length = S.length ∧ Sm T ∧ ∀ j, j < o ∨ o + k ≤ j → lim T j = lim S j
def SmInv (S T ys : List Nat) (o q k c : Nat) : Prop := Win S T o k ∧ pv (S.drop o) k + pw k * c = pv (T.drop o) k + q * pv ys k
theorem sm_start (S ys : List Nat) (o q : Nat) (hs : Sm S) : SmInv S S ys o q 0 0 := ⟨⟨rfl, hs, fun _ _ => rfl⟩, by simp [pv_zero]⟩
theorem sm_step {S T ys : List Nat} {o q k c t v c' : Nat} (hk : o + k < S.length) (ht : t = c + q * lim ys k) (hv : v < 4294967296)
    (hvc : v + t % 4294967296 + 4294967296 * (t / 4294967296) + 0 = lim T (o + k) + 4294967296 * c') (h : SmInv S T ys o q k c) :
    SmInv S (T.set (o + k) v) ys o q (k + 1) c' := by
  obtain ⟨⟨h1, h2, h3⟩, h4⟩ := h
  refine ⟨⟨by rw [List.length_set, h1], h2.set _ hv, fun j hj => ?_⟩, ?_⟩
  · rw [lim_set_ne (by omega)]; exact h3 j (by omega)
  · rw [pv_drop_set (by omega), pv_succ, pv_succ ys, lim_drop, pw, ← h3 (o + k) (by omega), Nat.mul_add]
    have hvt : v + t = lim T (o + k) + 4294967296 * c' := by omega
    have e : pw k * (v + t) = pw k * (lim T (o + k) + 4294967296 * c') := by rw [hvt]
    rw [Nat.mul_add, Nat.mul_add, ht, Nat.mul_add, Nat.mul_left_comm (pw k) 4294967296, ← Nat.mul_assoc 4294967296] at e
    rw [Nat.mul_left_comm q (pw k)]
    omega
theorem sm_word {s c q y t : Nat} (hs : s < 4294967296) (hc : c < 4294967296) (hq : q < 4294967296) (hy : y < 4294967296) (ht : t = c + q * y) :
    t ≤ 18446744069414584320 ∧ (s < t % 4294967296 → t / 4294967296 + 1 < 4294967296) ∧ t / 4294967296 < 4294967296 := by
  have h := Nat.mul_le_mul (show q ≤ 4294967295 by omega) (show y ≤ 4294967295 by omega)
  refine ⟨by omega, fun h => by omega, by omega⟩
/-- The last limb. -/
theorem sm_end {S T ys : List Nat} {o q m c v e : Nat} (hk : o + (m + 1) ≤ S.length) (hm : ys.length = m) (hv : v < 4294967296) (hvc : v + c = lim T (o + m) + 4294967296 * e) (h : SmInv S T ys o q m c) :
    Win S (T.set (o + m) v) o (m + 1) ∧ pv ((T.set (o + m) v).drop o) (m + 1) + q * val ys = pv (S.drop o) (m + 1) + pw (m + 1) * e := by
  obtain ⟨⟨h1, h2, h3⟩, h4⟩ := h
  refine ⟨⟨by rw [List.length_set, h1], h2.set _ hv, fun j hj => ?_⟩, ?_⟩
  · rw [lim_set_ne (by omega)]; exact h3 j (by omega)
  · rw [pv_drop_set (by omega), pv_succ, lim_drop, ← h3 (o + m) (by omega), pw]
    rw [pv_len (xs := ys) (by omega)] at h4
    have e1 : pw m * (v + c) = pw m * (lim T (o + m) + 4294967296 * e) := by rw [hvc]
    rw [Nat.mul_add, Nat.mul_add, Nat.mul_left_comm (pw m) 4294967296, ← Nat.mul_assoc 4294967296] at e1
    omega
theorem win_lt {S T : List Nat} {o k : Nat} (h : Win S T o k) (j : Nat) : pv (T.drop o) j < pw j := pv_lt (h.2.1.drop o) j

/-- The divisor added back. -/
theorem ab_end {S T ys : List Nat} {o m cc v x : Nat} (hk : o + (m + 1) ≤ S.length) (hm : ys.length = m) (hv : v < 4294967296) (hvx : v + 4294967296 * x = lim S (o + m) + cc) (h : AmInv S T ys o 1 m cc) :
    Win S (T.set (o + m) v) o (m + 1) ∧ pv ((T.set (o + m) v).drop o) (m + 1) + pw (m + 1) * x = pv (S.drop o) (m + 1) + val ys := by
  obtain ⟨h1, h2, h3, h4⟩ := h
  refine ⟨⟨by rw [List.length_set, h1], h2.set _ hv, fun j hj => ?_⟩, ?_⟩
  · rw [lim_set_ne (by omega)]; exact h3 j (by omega)
  · rw [pv_drop_set (by omega), pv_succ, lim_drop, pw]
    rw [pv_len (xs := ys) (by omega), Nat.mul_one] at h4
    have e1 : pw m * (v + 4294967296 * x) = pw m * (lim S (o + m) + cc) := by rw [hvx]
    rw [Nat.mul_add, Nat.mul_add, Nat.mul_left_comm (pw m) 4294967296, ← Nat.mul_assoc 4294967296] at e1
    omega
end Go.Proofs.YtnddhohjfjlaiaaGreatDoor

/-
  estimate.
-/
namespace Go.Proofs.YtnddhohjfjlaiaaGreatDoor
open Go.RowKit
set_option linter.unusedVariables false
set_option linter.unusedSimpArgs false

def EstRel (Q y1 t : Nat) (a b : Value) : Prop := ∃ q r : Nat, a = .int .u64 q ∧ b = .int .u64 r ∧ q ≤ 8589934592 ∧ r < 8589934592 ∧ Q ≤ q ∧ q * y1 + r = t
theorem est_calls (A B : Option Addr) (p c d : Nat) (rs ys : List Nat) (w : World) (h : Rd w A (p + 3) c rs) (h2 : Rd w B (p + 2) d ys) (hp : p ≤ 1048576) (hlt : val rs < 4294967296 * val ys) (hnm : 2147483648 ≤ lim ys (p + 1)) :
    Calls Tryz.prog 110 #[.slice A (p + 3) c, .slice B (p + 2) d] w fun e w' => ∃ q : Nat, e = .returned (.int .u64 (q : Int)) ∧ (∃ m, w' = w.drewN m) ∧ val rs / val ys ≤ q ∧ q ≤ val rs / val ys + 1 ∧ q < 4294967296 := by
  have hE := est_of h.sm h2.sm h.len h2.len hlt hnm
  obtain ⟨b1, o1, rfl, -, hc1⟩ := h.at_ (by omega)
  obtain ⟨b2, o2, rfl, -, hc2⟩ := h2.at_ (by omega)
  have r0 := hc1 p (by omega)
  have r1 := hc1 (p + 1) (by omega)
  have r2 := hc1 (p + 2) (by omega)
  have d0 := hc2 p (by omega)
  have d1 := hc2 (p + 1) (by omega)
  have hs := est_start hE
  generalize lim rs p = x0 at *
  generalize lim rs (p + 1) = x1 at *
  generalize lim rs (p + 2) = x2 at *
  generalize lim ys p = y0 at *
  generalize lim ys (p + 1) = y1 at *
  generalize val rs / val ys = Q at *
  have f1 := hE.f2
  have f2 := hE.fB
  have f3 := hE.sB
  have f4 := hE.a0
  have f5 := hE.a1
  have f6 := hE.a2
  have htop := or_lo f5 f6
  obtain ⟨t, ht⟩ : ∃ t, t = x1 + 4294967296 * x2 := ⟨_, rfl⟩
  have htb : t ≤ 18446744073709551615 := by omega
  rw [← ht] at htop hs
  obtain ⟨q0, hq0⟩ : ∃ q0, q0 = t / y1 := ⟨_, rfl⟩
  obtain ⟨r0', hr0⟩ : ∃ r0, r0 = t % y1 := ⟨_, rfl⟩
  have hq1 : (t : Int) / (y1 : Int) = (q0 : Int) := by rw [hq0]; simp
  have hr1 : (t : Int) % (y1 : Int) = (r0' : Int) := by rw [hr0]; simp
  have hrb : r0' < 4294967296 := by rw [hr0]; have := Nat.mod_lt t (show 0 < y1 by omega); omega
  have hy1 : ((y1 : Int) == 0) = false := by simp; omega
  rw [← hq0, ← hr0] at hs
  have hqb : q0 ≤ 8589934592 := hs.2.2
  have HE := hide hE
  have HS := hide hs
  have HT := hide ht
  clear hE hs ht hc1 hc2 h h2 hlt hq0 hr0
  go_enter Tryz.func110, Tryz.ntmps110
  go_wp2
  go_quiet (fail)
  go_wp2
  go_quiet (fail)
  go_wp2
  go_quiet (fail)
  go_wp2
  have HR1 := hide hr1
  clear r1 r2 d0 d1 htop hq1 hr1 hy1
  go_loop [9, 10] (fun a b => EstRel Q y1 t a b) (fun a _ => (intOf a).toNat)
  case atStart => exact ⟨q0, r0', rfl, congrArg _ HR1.out, hqb, by omega, HS.out.1, HS.out.2.1⟩
  case round =>
    obtain ⟨q, r, rfl, rfl, hq, hr, hi⟩ := hrel
    have HI := hide hi
    clear hi
    have hdec : (4294967296 ≤ q ∨ x0 + 4294967296 * r < q * y0) → Q ≤ q - 1 ∧ (q - 1) * y1 + (r + y1) = t ∧ 0 < q := fun hc => by
      have := est_dec HE.out HI.out.1 (by rw [← HT.out]; exact HI.out.2) hc
      rwa [← HT.out] at this
    have hfin : (4294967296 ≤ r ∨ (q < 4294967296 ∧ q * y0 ≤ x0 + 4294967296 * r)) → q < 4294967296 ∧ q ≤ Q + 1 := fun hc => est_fin HE.out HI.out.1 (by rw [← HT.out]; exact HI.out.2) hc
    have HD := hide hdec
    have HF := hide hfin
    clear hdec hfin
    by_cases c1 : 4294967296 ≤ r
    · have e1 : ((r : Int) / 4294967296 == 0) = false := by simp; omega
      have hf := HF.out (.inl c1)
      go_wp2
      go_ret
      exact ⟨q, rfl, ⟨_, rfl⟩, HI.out.1, hf.2, hf.1⟩
    · have e1 : ((r : Int) / 4294967296 == 0) = true := by simp; omega
      by_cases c2 : 4294967296 ≤ q
      · have e2 : ((q : Int) / 4294967296 != 0) = true := by simp; omega
        have hd := HD.out (.inl c2)
        have hq0 : 0 < q := hd.2.2
        have HD2 := hide hd
        clear hd
        go_wp2
        go_round
        case rel => exact ⟨q - 1, r + y1, by go_num, by go_num, by omega, by omega, HD2.out.1, HD2.out.2.1⟩
        case measure => simp [intOf]; omega
      · have e2 : ((q : Int) / 4294967296 != 0) = false := by simp; omega
        have hz := or_lo f4 (show r < 4294967296 by omega)
        obtain ⟨z, hzz⟩ : ∃ z, z = x0 + 4294967296 * r := ⟨_, rfl⟩
        rw [← hzz] at hz
        have hqs := mul_bound (show q < 4294967296 by omega) f3
        have hqs0 : (0 : Int) ≤ (q : Int) * (y0 : Int) := Int.mul_nonneg (by omega) (by omega)
        have hqs1 : (q : Int) * (y0 : Int) ≤ 18446744065119617025 := by
          have : ((q * y0 : Nat) : Int) = (q : Int) * (y0 : Int) := by simp
          omega
        by_cases c3 : z < q * y0
        · have hd := HD.out (.inr (by rw [← hzz]; exact c3))
          have hq0 : 0 < q := hd.2.2
          have e3 : (z : Int) < (q : Int) * (y0 : Int) := by
            have : ((q * y0 : Nat) : Int) = (q : Int) * (y0 : Int) := by simp
            omega
          have HD2 := hide hd
          clear hd hzz c3
          go_wp2
          go_round
          case rel => exact ⟨q - 1, r + y1, by go_num, by go_num, by omega, by omega, HD2.out.1, HD2.out.2.1⟩
          case measure => simp [intOf]; omega
        · have hf := HF.out (.inr ⟨by omega, by rw [← hzz]; omega⟩)
          have e3 : ¬ (z : Int) < (q : Int) * (y0 : Int) := by
            have : ((q * y0 : Nat) : Int) = (q : Int) * (y0 : Int) := by simp
            omega
          have e4 : decide ((z : Int) < (q : Int) * (y0 : Int)) = false := by simpa using e3
          have HF2 := hide hf
          clear hf hzz c3
          go_wp2
          go_ret
          exact ⟨q, rfl, ⟨_, rfl⟩, HI.out.1, HF2.out.2, HF2.out.1⟩
end Go.Proofs.YtnddhohjfjlaiaaGreatDoor

/-
  subMultiple.
-/
namespace Go.Proofs.YtnddhohjfjlaiaaGreatDoor
open Go.RowKit
set_option linter.unusedVariables false
set_option linter.unusedSimpArgs false

theorem u32_less {s p : Nat} (hs : s < 4294967296) (hp : p < 4294967296) : ∃ v e : Nat, IntKind.u32.wrap ((s : Int) - (p : Int)) = (v : Int) ∧ v < 4294967296 ∧ v + p = s + 4294967296 * e ∧ e = (if s < p then 1 else 0) := by
  rw [IntKind.wrap_u32]
  by_cases h : s < p
  · exact ⟨s + 4294967296 - p, 1, by omega, by omega, by omega, by rw [if_pos h]⟩
  · exact ⟨s - p, 0, by omega, by omega, by omega, by rw [if_neg h]⟩

def SubPost (w : World) (g o m : Nat) (S ys : List Nat) (q : Nat) (neg : Bool) (e : Ending) (w' : World) : Prop :=
  ∃ T : List Nat, e = .returned (.bool neg) ∧ w.grownBy w' (some g) ∧ Blk w' g (arr T) ∧ Win S T o (m + 1) ∧ pv (T.drop o) (m + 1) + q * val ys = pv (S.drop o) (m + 1) + pw (m + 1) * (if neg = true then 1 else 0)

theorem sm_calls (g o m cs d : Nat) (B : Option Addr) (S ys : List Nat) (q : Nat) (w : World) (neg : Bool) (hb : Blk w g (arr S)) (hs : Sm S) (ho : o + (m + 1) ≤ S.length) (hcs : m + 1 ≤ cs) (h2 : Rd w B m d ys) (ha : Away B m g)
    (hq : q < 4294967296) (hS : S.length ≤ 4194304) (hneg : decide (pv (S.drop o) (m + 1) < q * val ys) = neg) :
    Calls Tryz.prog 111 #[.slice (some ⟨g, o, none⟩) (m + 1) cs, .slice B m d, .int .u64 (q : Int)] w (SubPost w g o m S ys q neg) := by
  have HN := hide hneg
  clear hneg
  go_enter Tryz.func111, Tryz.ntmps111
  go_wp2
  go_loopw [8, 17] (fun cy i wr => ∃ (k cc : Nat) (T : List Nat), k ≤ m ∧ i = .int .i64 k ∧ cy = .int .u64 cc ∧ cc ≤ 4294967295 ∧ w.grownBy wr (some g) ∧ Blk wr g (arr T) ∧ Hid (SmInv S T ys o q k cc)) (fun _ i _ => m - (intOf i).toNat)
  case atStart => exact ⟨0, 0, S, by omega, rfl, rfl, by omega, World.grownBy.refl _ _, hb, sm_start S ys o q hs⟩
  case round =>
    obtain ⟨k, cc, T, hk, rfl, rfl, hcc, hg, hbl, HI⟩ := hrel
    by_cases hkm : k < m
    · have hok : o + k < T.length := by have := HI.out.1.1; omega
      have hbc : wr.cell? ⟨g, o + k, none⟩ = some (.int .u32 (lim T (o + k) : Nat)) := blk_cell hbl hok
      have hbf := hbl.frozen (o + k)
      have hsT := HI.out.1.2.1.lim (o + k)
      have hy := h2.sm.lim k
      obtain ⟨t, ht⟩ : ∃ t, t = cc + q * lim ys k := ⟨_, rfl⟩
      have ht1 : (cc : Int) + (q : Int) * (lim ys k : Int) = (t : Int) := by rw [ht]; simp
      obtain ⟨w1, w2, w3⟩ := sm_word hsT (show cc < 4294967296 by omega) hq hy ht
      have hxy := mul_bound hq hy
      have hxy0 : (0 : Int) ≤ (q : Int) * (lim ys k : Int) := Int.mul_nonneg (by omega) (by omega)
      have hxy1 : (q : Int) * (lim ys k : Int) ≤ 18446744065119617025 := by
        have : ((q * lim ys k : Nat) : Int) = (q : Int) * (lim ys k : Int) := by simp
        omega
      obtain ⟨v, e, hv1, hv2, hv3, hv4⟩ := u32_less hsT (show t % 4294967296 < 4294967296 by omega)
      have hv5 : IntKind.u32.wrap ((lim T (o + k) : Int) - (t : Int) % 4294967296) = (v : Int) := by rw [← hv1]; simp
      obtain ⟨b, off, hA, -, hc⟩ := (h2.grown hg ha).get hkm
      subst hA
      by_cases hlt : lim T (o + k) < t % 4294967296
      · rw [if_pos hlt] at hv4
        subst hv4
        have HS := hide (sm_step (by omega) ht hv2 (show v + t % 4294967296 + 4294967296 * (t / 4294967296) + 0 = lim T (o + k) + 4294967296 * (t / 4294967296 + 1) by omega) HI.out)
        have hl2 : (lim T (o + k) : Int) < (t : Int) % 4294967296 := by omega
        have w4 := w2 hlt
        clear ht hv1 hv3 hlt w2
        go_wp2
        go_roundw
        case rel => exact ⟨k + 1, t / 4294967296 + 1, _, by omega, by go_num, by go_num, by omega, grown_set hg _ _, blk_set hbl _ v, HS⟩
        case measure => simp [intOf]; omega
      · rw [if_neg hlt] at hv4
        subst hv4
        have HS := hide (sm_step (by omega) ht hv2 (show v + t % 4294967296 + 4294967296 * (t / 4294967296) + 0 = lim T (o + k) + 4294967296 * (t / 4294967296) by omega) HI.out)
        have hl2 : ¬ (lim T (o + k) : Int) < (t : Int) % 4294967296 := by omega
        have hv6 : (lim T (o + k) : Int) - (t : Int) % 4294967296 = (v : Int) := by omega
        clear ht hv1 hv3 hlt w2
        go_wp2
        go_roundw
        case rel => exact ⟨k + 1, t / 4294967296, _, by omega, by go_num, by go_num, by omega, grown_set hg _ _, blk_set hbl _ v, HS⟩
        case measure => simp [intOf]; omega
    · obtain rfl : m = k := by omega
      have hok : o + m < T.length := by have := HI.out.1.1; omega
      have hbc : wr.cell? ⟨g, o + m, none⟩ = some (.int .u32 (lim T (o + m) : Nat)) := blk_cell hbl hok
      have hbf := hbl.frozen (o + m)
      have hsT := HI.out.1.2.1.lim (o + m)
      obtain ⟨v, e, hv1, hv2, hv3, hv4⟩ := u32_less hsT (show cc < 4294967296 by omega)
      have hend := sm_end (v := v) (e := e) ho h2.len hv2 hv3 HI.out
      have hneg2 : neg = decide (lim T (o + m) < cc) := by
        rw [← HN.out]
        have hw := win_lt hend.1 (m + 1)
        have h0 := hend.2
        by_cases hlt : lim T (o + m) < cc
        · rw [if_pos hlt] at hv4
          subst hv4
          simp only [hlt, decide_true, decide_eq_true_eq]
          omega
        · rw [if_neg hlt] at hv4
          subst hv4
          simp only [hlt, decide_false, decide_eq_false_iff_not]
          omega
      have hfin : SubPost w g o m S ys q neg (.returned (.bool neg)) (wr.setCell ⟨g, o + m, none⟩ (.int .u32 (v : Int))) := by
        refine ⟨T.set (o + m) v, rfl, grown_set hg _ _, blk_set hbl _ v, hend.1, ?_⟩
        rw [hend.2, hv4, hneg2]
        simp
      have HF := hide hfin
      have HN2 := hide hneg2
      clear hend hneg2 hfin
      by_cases hlt : lim T (o + m) < cc
      · have hn : neg = true := by rw [HN2.out]; simpa using hlt
        subst hn
        have hl2 : (lim T (o + m) : Int) < (cc : Int) := by omega
        clear hv3 hv4
        go_wp2
        go_ret
        exact HF.out
      · have hn : neg = false := by rw [HN2.out]; simpa using hlt
        subst hn
        have hl2 : ¬ (lim T (o + m) : Int) < (cc : Int) := by omega
        have hd : decide ((lim T (o + m) : Int) < (cc : Int)) = false := by simpa using hl2
        have hv6 : (lim T (o + m) : Int) - (cc : Int) = (v : Int) := by rw [if_neg hlt] at hv4; omega
        clear hv3 hv4
        go_wp2
        go_ret
        exact HF.out

def AbPost (w : World) (g o m : Nat) (S ys : List Nat) (e : Ending) (w' : World) : Prop :=
  ∃ (T : List Nat) (x : Nat), e = .returned (.tuple #[]) ∧ w.grownBy w' (some g) ∧ Blk w' g (arr T) ∧ Win S T o (m + 1) ∧ pv (T.drop o) (m + 1) + pw (m + 1) * x = pv (S.drop o) (m + 1) + val ys
theorem u32_plus {s p : Nat} (hs : s < 4294967296) (hp : p < 4294967296) : ∃ v x : Nat, IntKind.u32.wrap ((s : Int) + (p : Int)) = (v : Int) ∧ v < 4294967296 ∧ v + 4294967296 * x = s + p := by
  rw [IntKind.wrap_u32]
  exact ⟨(s + p) % 4294967296, (s + p) / 4294967296, by omega, by omega, by omega⟩
end Go.Proofs.YtnddhohjfjlaiaaGreatDoor

/-
  addBack.
-/
namespace Go.Proofs.YtnddhohjfjlaiaaGreatDoor
open Go.RowKit
set_option linter.unusedVariables false
set_option linter.unusedSimpArgs false

set_option maxHeartbeats 2000000 in
theorem ab_calls (g o m cs d : Nat) (B : Option Addr) (S ys : List Nat) (w : World) (hb : Blk w g (arr S)) (hs : Sm S) (ho : o + (m + 1) ≤ S.length) (hcs : m + 1 ≤ cs) (h2 : Rd w B m d ys) (ha : Away B m g) (hS : S.length ≤ 4194304) :
    Calls Tryz.prog 112 #[.slice (some ⟨g, o, none⟩) (m + 1) cs, .slice B m d] w (AbPost w g o m S ys) := by
  have hbc : w.cell? ⟨g, o + m, none⟩ = some (.int .u32 (lim S (o + m) : Nat)) := blk_cell hb (by omega)
  have hbf := hb.frozen (o + m)
  have hl := hs.lim (o + m)
  have hc : Calls Tryz.prog 71 #[.slice (some ⟨g, o, none⟩) m cs, .slice B m d, .int .u32 1] w.drew fun e w' => ∃ (cc v x : Nat) (T : List Nat), e = .returned (.int .u32 (cc : Int)) ∧ IntKind.u32.wrap ((lim S (o + m) : Int) + (cc : Int)) = (v : Int) ∧
      w'.cell? ⟨g, o + m, none⟩ = some (.int .u32 (lim S (o + m) : Nat)) ∧ w'.frozen? ⟨g, o + m, none⟩ = false ∧ Hid (AbPost w g o m S ys (.returned (.tuple #[])) (w'.setCell ⟨g, o + m, none⟩ (.int .u32 (v : Int)))) := by
    refine (am_calls g o m cs d B S ys 1 w.drew hb hs (by omega) (by omega) (h2.below (Below.refl _ _).drew) ha (by omega) hS).mono ?_
    rintro e w' ⟨cc, T, rfl, hcc, hg, hbl, HAM⟩
    obtain ⟨v, x, hv1, hv2, hv3⟩ := u32_plus hl hcc
    have he := ab_end ho h2.len hv2 hv3 HAM
    have hT : T.length = S.length := HAM.1
    have e1 : lim T (o + m) = lim S (o + m) := HAM.2.2.1 _ (by omega)
    refine ⟨cc, v, x, T, rfl, hv1, by rw [← e1]; exact blk_cell hbl (by omega), hbl.frozen _, ⟨T.set (o + m) v, x, rfl, ?_, blk_set hbl _ v, he.1, he.2⟩⟩
    exact grown_set (w := w) ⟨hg.os, hg.tape, hg.output, hg.size, hg.block⟩ _ _
  have HC := hide hc
  clear hc
  go_enter Tryz.func112, Tryz.ntmps112
  go_wp2
  go_region_with (go_at_call 71; refine (unhide HC).mono ?_; rintro e w' ⟨cc, v, x, T, rfl, hv1, hcell, hfr, HF⟩)
  all_goals go_wp2
  all_goals go_end0
  all_goals exact HF.out
end Go.Proofs.YtnddhohjfjlaiaaGreatDoor

/-
  quotientLimb.
-/
namespace Go.Proofs.YtnddhohjfjlaiaaGreatDoor
open Go.RowKit
set_option linter.unusedVariables false
set_option linter.unusedSimpArgs false

theorem win_trans {S T U : List Nat} {o k : Nat} (h : Win S T o k) (h' : Win T U o k) : Win S U o k :=
  ⟨h'.1.trans h.1, h'.2.1, fun j hj => (h'.2.2 j hj).trans (h.2.2 j hj)⟩
def QlPost (w : World) (g o p : Nat) (S ys : List Nat) (e : Ending) (w' : World) : Prop :=
  ∃ T : List Nat, e = .returned (.int .u32 (pv (S.drop o) (p + 3) / val ys : Nat)) ∧ w.grownBy w' (some g) ∧ Blk w' g (arr T) ∧ Win S T o (p + 3) ∧ pv (T.drop o) (p + 3) = pv (S.drop o) (p + 3) % val ys
theorem ql_none {R D q a : Nat} (hD : 0 < D) (hq : q = R / D) (h : a + q * D = R) : a = R % D := by
  subst hq
  have := Nat.div_add_mod R D
  rw [Nat.mul_comm] at this
  omega
theorem ql_back {R D q a b W x : Nat} (hD : 0 < D) (hDW : D < W) (hb : b < W) (hq : q = R / D + 1) (h : a + q * D = R + W) (h2 : b + W * x = a + D) : b = R % D := by
  subst hq
  have h3 := Nat.div_add_mod R D
  have h4 := Nat.mod_lt R hD
  rw [Nat.add_mul, Nat.one_mul, Nat.mul_comm] at h
  match x, h2 with
  | 0, h2 => rw [Nat.mul_zero] at h2; omega
  | 1, h2 => rw [Nat.mul_one] at h2; omega
  | x + 2, h2 =>
    rw [Nat.mul_add] at h2
    have := Nat.zero_le (W * x)
    omega
theorem drewN_grown {w w' : World} {k : Nat} {r : Option Nat} (h : (w.drewN k).grownBy w' r) : w.grownBy w' r := ⟨h.os, h.tape, h.output, h.size, h.block⟩
theorem grown_then {a b c : World} {g : Nat} (h : a.grownBy b (some g)) (k : b.grownBy c (some g)) : a.grownBy c (some g) :=
  ⟨k.os.trans h.os, k.tape.trans h.tape, k.output.trans h.output, Nat.le_trans h.size k.size, fun i hi hne => (k.block i (Nat.lt_of_lt_of_le hi h.size) hne).trans (h.block i hi hne)⟩

theorem ql_calls (g o p cs d : Nat) (B : Option Addr) (S ys : List Nat) (w : World) (hb : Blk w g (arr S)) (hs : Sm S) (ho : o + (p + 3) ≤ S.length) (hcs : p + 3 ≤ cs) (h2 : Rd w B (p + 2) d ys) (ha : Away B (p + 2) g)
    (hlt : pv (S.drop o) (p + 3) < 4294967296 * val ys) (hnm : 2147483648 ≤ lim ys (p + 1)) (hS : S.length ≤ 1048576) :
    Calls Tryz.prog 109 #[.slice (some ⟨g, o, none⟩) (p + 3) cs, .slice B (p + 2) d] w (QlPost w g o p S ys) := by
  have hD : 0 < val ys := by
    rcases Nat.eq_zero_or_pos (val ys) with h | h
    · rw [h] at hlt; omega
    · exact h
  have hDW : val ys < pw (p + 2 + 1) := by
    have h1 := val_lt h2.sm
    rw [h2.len] at h1
    exact Nat.lt_of_lt_of_le h1 (pw_mono (by omega))
  have hr := blk_rd hb hs (o := o) (n := p + 3) (c := cs) ho hcs
  have hest := est_calls _ B p cs d _ ys w hr h2 (by omega) hlt hnm
  have hp : p ≤ 1048576 := by omega
  have HEST := hide hest
  have HD := hide (And.intro hD hDW)
  clear hest hlt hr hD hDW
  go_enter Tryz.func109, Tryz.ntmps109
  go_wp2_with fail
  refine (unhide HEST).mono ?_
  rintro e w' ⟨q, rfl, ⟨m, rfl⟩, hq1, hq2, hq3⟩
  have hq1' : pv (S.drop o) (p + 3) / val ys ≤ q := hq1
  have hq2' : q ≤ pv (S.drop o) (p + 3) / val ys + 1 := hq2
  have hdm := Nat.div_add_mod (pv (S.drop o) (p + 3)) (val ys)
  have hml := Nat.mod_lt (pv (S.drop o) (p + 3)) HD.out.1
  by_cases hq : q = pv (S.drop o) (p + 3) / val ys
  · have hneg : decide (pv (S.drop o) (p + 2 + 1) < q * val ys) = false := by
      simp only [decide_eq_false_iff_not]
      rw [hq, Nat.mul_comm]
      show ¬ pv (S.drop o) (p + 3) < _
      omega
    have hsm := sm_calls g o (p + 2) cs d B S ys q (w.drewN m) false hb hs ho hcs (h2.below (below_drewN (Below.refl _ _) _)) ha hq3 (by omega) hneg
    have HSM := hide hsm
    have HQ := hide hq
    clear hsm hneg hdm hml hq1 hq2 hq1' hq2' hq
    go_wp2_with fail
    refine (unhide HSM).mono ?_
    rintro e w' ⟨T, rfl, hg, hbl, hwin, hv⟩
    go_wp2
    go_ret
    refine ⟨T, ret_int (by rw [HQ.out]), drewN_grown hg, hbl, hwin, ql_none HD.out.1 HQ.out (by simpa using hv)⟩
  · have hqq : q = pv (S.drop o) (p + 3) / val ys + 1 := by omega
    have hneg : decide (pv (S.drop o) (p + 2 + 1) < q * val ys) = true := by
      simp only [decide_eq_true_eq]
      rw [hqq, Nat.add_mul, Nat.one_mul, Nat.mul_comm]
      show pv (S.drop o) (p + 3) < _
      omega
    have hsm := sm_calls g o (p + 2) cs d B S ys q (w.drewN m) true hb hs ho hcs (h2.below (below_drewN (Below.refl _ _) _)) ha hq3 (by omega) hneg
    have HSM := hide hsm
    have HQ := hide hqq
    have hq0 : 1 ≤ q := by rw [hqq]; exact Nat.le_add_left 1 _
    clear hsm hneg hdm hml hq1 hq2 hq1' hq2' hq hqq
    go_wp2_with fail
    refine (unhide HSM).mono ?_
    rintro e w' ⟨T, rfl, hg, hbl, hwin, hv⟩
    have hab := ab_calls g o (p + 2) cs d B T ys w' hbl hwin.2.1 (by rw [hwin.1]; exact ho) hcs ((h2.below (below_drewN (Below.refl _ _) _)).grown hg ha) ha (by rw [hwin.1]; omega)
    have HAB := hide hab
    have HV := hide hv
    clear hab hv
    go_wp2_with fail
    refine (unhide HAB).mono ?_
    rintro e w2 ⟨U, x, rfl, hg2, hbl2, hwin2, hv2⟩
    have HV2 := hide hv2
    clear hv2
    go_wp2
    go_ret
    refine ⟨U, ret_int ?_, grown_then (drewN_grown hg) hg2, hbl2, win_trans hwin hwin2, ql_back HD.out.1 HD.out.2 (win_lt hwin2 _) HQ.out (by simpa using HV.out) HV2.out⟩
    have := HQ.out
    generalize pv (S.drop o) (p + 3) / val ys = Q at this ⊢
    omega
end Go.Proofs.YtnddhohjfjlaiaaGreatDoor

/-
  Plain facts on the long division.
-/
namespace Go.Proofs.YtnddhohjfjlaiaaGreatDoor
set_option linter.unusedVariables false
set_option linter.unusedSimpArgs false

theorem val_cons_drop {T : List Nat} {i : Nat} (h : i < T.length) : val (T.drop i) = lim T i + 4294967296 * val (T.drop (i + 1)) := by
  rw [List.drop_eq_getElem_cons h, val, lim_get h]
theorem val_drop_split (T : List Nat) (i m : Nat) : val (T.drop i) = pv (T.drop i) m + pw m * val (T.drop (i + m)) := by
  rcases Nat.lt_or_ge (T.drop i).length m with h | h
  · have e0 : T.drop (i + m) = [] := List.drop_of_length_le (by rw [List.length_drop] at h; omega)
    rw [pv_len (by omega), e0]
    simp [val]
  · rw [val_split (T.drop i) m h, List.drop_drop]
/-- The state of a long division: T is what is left, Qs the quotient's limbs from j on. -/
structure Dl (T Qs : List Nat) (n m D A j : Nat) : Prop where
  lenT : T.length = n + 1
  smT : Sm T
  lenQ : Qs.length = n + 1 - m
  smQ : Sm Qs
  less : val (T.drop j) < D
  whole : A = val T + D * (pw j * val (Qs.drop j))
theorem dl_start {T ys : List Nat} {n m k A : Nat} (hT : T.length = n + 1) (hsT : Sm T) (hv : val T = A * 2 ^ k) (hA : A < pw n) (hm : 0 < m) (hmn : m ≤ n) (hy : pw (m - 1) ≤ val ys) :
    Dl T (List.replicate (n + 1 - m) 0) n m (val ys * 2 ^ k) (A * 2 ^ k) (n + 1 - m) := by
  refine ⟨hT, hsT, List.length_replicate, Sm.replicate _, ?_, ?_⟩
  · rw [val_drop T hsT, hv]
    apply Nat.div_lt_of_lt_mul
    rw [← Nat.mul_assoc]
    refine Nat.mul_lt_mul_of_pos_right (Nat.lt_of_lt_of_le hA ?_) (Nat.two_pow_pos k)
    have h1 := Nat.mul_le_mul_left (pw (n + 1 - m)) hy
    rw [← pw_add, show n + 1 - m + (m - 1) = n by omega] at h1
    exact h1
  · rw [List.drop_of_length_le (by rw [List.length_replicate]; exact Nat.le_refl _), hv]
    simp [val]
section
variable {T Qs : List Nat} {n m D A i : Nat}
theorem dl_window (h : Dl T Qs n m D A (i + 1)) (hi : i + m + 1 ≤ n + 1) (hDm : D < pw m) : pv (T.drop i) (m + 1) = val (T.drop i) ∧ val (T.drop i) < 4294967296 * D := by
  have hc := val_cons_drop (T := T) (i := i) (by have := h.lenT; omega)
  have hl := h.smT.lim i
  have h1 := h.less
  refine ⟨pv_of_lt ?_, by omega⟩
  rw [pw]
  omega
theorem dl_step {T' : List Nat} (hD : 0 < D) (h : Dl T Qs n m D A (i + 1)) (hi : i + m + 1 ≤ n + 1) (hDm : D < pw m) (hw : Win T T' i (m + 1)) (hv : pv (T'.drop i) (m + 1) = pv (T.drop i) (m + 1) % D) :
    Dl T' (Qs.set i (pv (T.drop i) (m + 1) / D)) n m D A i := by
  obtain ⟨hR, hlt⟩ := dl_window h hi hDm
  rw [hR] at hv ⊢
  have hQ : val (T.drop i) / D < 4294967296 := Nat.div_lt_of_lt_mul (by rw [Nat.mul_comm]; exact hlt)
  have hz : val (T.drop (i + (m + 1))) = 0 := by
    have h1 := val_drop_split T i (m + 1)
    rw [hR] at h1
    rcases Nat.eq_zero_or_pos (val (T.drop (i + (m + 1)))) with h0 | h0
    · exact h0
    · have := Nat.le_mul_of_pos_left (val (T.drop (i + (m + 1)))) (pw_pos (m + 1)); omega
  have hz' : val (T'.drop (i + (m + 1))) = 0 := by
    rw [← hz]
    exact val_eq_of fun j => by rw [lim_drop, lim_drop]; exact hw.2.2 _ (.inr (by omega))
  have hd : val (T'.drop i) = val (T.drop i) % D := by rw [val_drop_split T' i (m + 1), hz', hv, Nat.mul_zero, Nat.add_zero]
  have hlenT := h.lenT
  have hlenQ := h.lenQ
  refine ⟨hw.1.trans h.lenT, hw.2.1, by rw [List.length_set]; exact h.lenQ, h.smQ.set _ hQ, by rw [hd]; exact Nat.mod_lt _ hD, ?_⟩
  have e1 : val T = pv T i + pw i * val (T.drop i) := val_split T i (by omega)
  have e2 : val T' = pv T' i + pw i * val (T'.drop i) := val_split T' i (by rw [hw.1]; omega)
  have e3 : pv T' i = pv T i := pv_congr fun j hj => hw.2.2 j (.inl hj)
  have e4 : val ((Qs.set i (val (T.drop i) / D)).drop i) = val (T.drop i) / D + 4294967296 * val (Qs.drop (i + 1)) := by
    rw [val_cons_drop (by rw [List.length_set]; omega), lim_set_eq (by omega), List.drop_set_of_lt (by omega)]
  rw [e2, e3, hd, e4, h.whole, e1]
  have e5 := Nat.div_add_mod (val (T.drop i)) D
  have e6 : pw i * val (T.drop i) = pw i * (D * (val (T.drop i) / D)) + pw i * (val (T.drop i) % D) := by rw [← Nat.mul_add, e5]
  rw [pw, Nat.mul_add (pw i), Nat.mul_add D, e6, Nat.mul_left_comm D (pw i) (val (T.drop i) / D)]
  have e7 : D * (4294967296 * pw i * val (Qs.drop (i + 1))) = D * (pw i * (4294967296 * val (Qs.drop (i + 1)))) := by
    rw [Nat.mul_comm 4294967296 (pw i), Nat.mul_assoc (pw i)]
  omega
theorem dl_end {X Y k : Nat} (hY : 0 < Y) (h : Dl T Qs n m (Y * 2 ^ k) (X * 2 ^ k) 0) : val Qs = X / Y ∧ val T / 2 ^ k = X % Y := by
  have h1 := h.less
  have h2 := h.whole
  rw [List.drop_zero] at h1 h2
  rw [pw, Nat.one_mul] at h2
  have hp := Nat.two_pow_pos k
  constructor
  · have e : X * 2 ^ k / (Y * 2 ^ k) = val Qs := by
      rw [h2, Nat.add_comm, Nat.mul_add_div (by omega), Nat.div_eq_of_lt h1, Nat.add_zero]
    rw [← e, Nat.mul_div_mul_right _ _ hp]
  · have e : X * 2 ^ k % (Y * 2 ^ k) = val T := by
      rw [h2, Nat.add_mul_mod_self_left, Nat.mod_eq_of_lt h1]
    rw [← e, Nat.mul_mod_mul_right, Nat.mul_div_cancel _ hp]
end
/-- The number of leading zeros of a limb that is not 0. -/
theorem lz_of {x b : Nat} (h1 : 1 ≤ b) (h32 : b ≤ 32) (hlo : 2 ^ (b - 1) ≤ x) (hhi : x < 2 ^ b) : 2147483648 ≤ x * 2 ^ (32 - b) ∧ x * 2 ^ (32 - b) < 4294967296 := by
  have e1 : 2 ^ (b - 1) * 2 ^ (32 - b) = 2147483648 := by rw [← Nat.pow_add, show b - 1 + (32 - b) = 31 by omega]
  have e2 : 2 ^ b * 2 ^ (32 - b) = 4294967296 := by rw [← Nat.pow_add, show b + (32 - b) = 32 by omega]
  constructor
  · rw [← e1]; exact Nat.mul_le_mul_right _ hlo
  · rw [← e2]; exact Nat.mul_lt_mul_of_pos_right hhi (Nat.two_pow_pos _)
/-- The divisor, shifted: its length, and its leading limb. -/
theorem norm_len {ys : List Nat} {p k : Nat} (hs : Sm ys) (hl : ys.length = p + 2) (hlo : 2147483648 ≤ lim ys (p + 1) * 2 ^ k) (hhi : lim ys (p + 1) * 2 ^ k < 4294967296) :
    val ys * 2 ^ k < pw (p + 2) ∧ (dg (val ys * 2 ^ k)).length = p + 2 ∧ 2147483648 ≤ lim (dg (val ys * 2 ^ k)) (p + 1) := by
  have e : val ys = pv ys (p + 1) + pw (p + 1) * lim ys (p + 1) := by rw [← pv_len (k := p + 2) (by omega), pv_succ]
  have hp := pv_lt hs (p + 1)
  have hpk := Nat.two_pow_pos k
  have hW := pw_pos (p + 1)
  have e2 : val ys * 2 ^ k = pv ys (p + 1) * 2 ^ k + pw (p + 1) * (lim ys (p + 1) * 2 ^ k) := by rw [e, Nat.add_mul, Nat.mul_assoc]
  have h1 : pw (p + 1) * 2147483648 ≤ pw (p + 1) * (lim ys (p + 1) * 2 ^ k) := Nat.mul_le_mul_left _ hlo
  have hup : val ys * 2 ^ k < pw (p + 2) := by
    have h3 : val ys < pw (p + 1) * (lim ys (p + 1) + 1) := by rw [e, Nat.mul_add, Nat.mul_one]; omega
    have h4 := Nat.mul_lt_mul_of_pos_right h3 hpk
    refine Nat.lt_of_lt_of_le h4 ?_
    rw [Nat.mul_assoc, show pw (p + 2) = pw (p + 1) * 4294967296 from by rw [pw, Nat.mul_comm]]
    apply Nat.mul_le_mul_left
    have e32 : 2 ^ k ∣ 4294967296 := by
      have hk : k ≤ 32 := by
        rcases Nat.lt_or_ge 32 k with h | h
        · have h5 : 2 ^ 33 ≤ 2 ^ k := Nat.pow_le_pow_right (by omega) (by omega)
          have h6 : lim ys (p + 1) ≠ 0 := by intro h0; rw [h0] at hlo; omega
          have h7 := Nat.le_mul_of_pos_left (2 ^ k) (show 0 < lim ys (p + 1) by omega)
          have h8 : (2 : Nat) ^ 33 = 8589934592 := by decide
          omega
        · exact h
      exact ⟨2 ^ (32 - k), (pow32 hk).symm⟩
    obtain ⟨c, hc⟩ := e32
    rw [hc] at hhi ⊢
    rw [Nat.mul_comm (2 ^ k) c] at hhi ⊢
    exact Nat.mul_le_mul_right _ (Nat.lt_of_mul_lt_mul_right hhi)
  have hlen : (dg (val ys * 2 ^ k)).length = p + 2 := by
    have h5 := len_dg_le hup
    rcases Nat.lt_or_ge (dg (val ys * 2 ^ k)).length (p + 2) with h6 | h6
    · have h7 := lt_of_len (n := val ys * 2 ^ k) (k := p + 1) (by omega)
      omega
    · omega
  refine ⟨hup, hlen, ?_⟩
  have h8 := val_dg (val ys * 2 ^ k)
  rw [← pv_len (k := p + 2) (by omega), pv_succ] at h8
  have h9 := pv_lt (sm_dg (val ys * 2 ^ k)) (p + 1)
  rcases Nat.lt_or_ge (lim (dg (val ys * 2 ^ k)) (p + 1)) 2147483648 with h10 | h10
  · have h11 := Nat.mul_le_mul_left (pw (p + 1)) (show lim (dg (val ys * 2 ^ k)) (p + 1) ≤ 2147483647 by omega)
    omega
  · exact h10
end Go.Proofs.YtnddhohjfjlaiaaGreatDoor

/-
  divideLong.
-/
namespace Go.Proofs.YtnddhohjfjlaiaaGreatDoor
open Go.RowKit
set_option linter.unusedVariables false
set_option linter.unusedSimpArgs false

theorem lz_calls (x : Nat) (w : World) (hx : x < 4294967296) (h0 : x ≠ 0) :
    Calls Tryz.prog 108 #[.int .u32 (x : Int)] w fun e w' => ∃ k : Nat, e = .returned (.int .i64 (k : Int)) ∧ w = w' ∧ k < 32 ∧ 2147483648 ≤ x * 2 ^ k ∧ x * 2 ^ k < 4294967296 := by
  refine (Tryz.bits_LeadingZeros32 (x : Int) w (by omega) (by omega)).mono ?_
  rintro e w' ⟨rfl, rfl⟩
  rw [Int.toNat_natCast]
  have hb := Lib.bitLenAux_bounds 64 x (by omega) h0
  have hle : Lib.bitLen x ≤ 32 := Lib.bitLen_le x 32 (by omega) (by omega)
  obtain ⟨h1, h2, h3⟩ := hb
  have hz := lz_of (x := x) (b := Lib.bitLen x) h1 hle h2 h3
  have h1' : 1 ≤ Lib.bitLen x := h1
  generalize Lib.bitLen x = b at *
  exact ⟨32 - b, ret_int (by omega), rfl, by omega, hz.1, hz.2⟩
theorem shl32_calls (A : Option Addr) (n c : Nat) (xs : List Nat) (w : World) (k : Nat) (h : Rd w A n c xs) (hn : n ≤ 1048576) (hk : k < 32) :
    Calls Tryz.prog 54 #[.slice A n c, .int .i64 (k : Int)] w fun e w' => ∃ S : List Nat, e = .returned (.slice (some ⟨w.heap.size, 0, none⟩) (n + 1) (n + 1)) ∧ Blk w' w.heap.size (arr S) ∧ S.length = n + 1 ∧ Sm S ∧ val S = val xs * 2 ^ k ∧ Below w.heap.size w w' := by
  have := shiftLeft_calls A n c xs w k h hn (by omega)
  rw [show k / 32 + n + 1 = n + 1 by omega] at this
  exact this
/-- Two slices of limbs. -/
def Gives2 (w : World) (xs ys : List Nat) (e : Ending) (w' : World) : Prop :=
  ∃ A c B d, e = .returned (.tuple #[.slice A xs.length c, .slice B ys.length d]) ∧ Rd w' A xs.length c xs ∧ Rd w' B ys.length d ys ∧ Below w.heap.size w w'

set_option maxHeartbeats 800000 in
theorem dl_calls (A B : Option Addr) (n p c d : Nat) (xs ys : List Nat) (w : World) (h : Rd w A n c xs) (h2 : Rd w B (p + 2) d ys) (hn : n ≤ 524288) (hle : val ys ≤ val xs) (htop : lim ys (p + 1) ≠ 0) (hmn : p + 2 ≤ n) :
    Calls Tryz.prog 99 #[.slice A n c, .slice B (p + 2) d] w (Gives2 w (dg (val xs / val ys)) (dg (val xs % val ys))) := by
  have hy1 := h2.sm.lim (p + 1)
  have hyl := h2.len
  have hypos : pw (p + 2 - 1) ≤ val ys := by
    rw [← pv_len (k := p + 2) (by omega), pv_succ]
    have := Nat.le_mul_of_pos_right (pw (p + 1)) (show 0 < lim ys (p + 1) by omega)
    show pw (p + 1) ≤ _
    omega
  have hA : val xs < pw n := by rw [← h.len]; exact val_lt h.sm
  have HP := hide (And.intro hypos hA)
  clear hypos hA hle
  have hmk := fun W => run_mk 23 (.inr rfl) (n + 1 - (p + 2)) ((n : Int) + 1 - ((p : Int) + 2)) (by omega) (by omega) W
  have hmk2 := fun W => run_mk 23 (.inr rfl) (n + 1 - (p + 2)) ((n : Int) + 1 - ((p + 2 : Nat) : Int)) (by omega) (by omega) W
  have hlz := fun W => lz_calls (lim ys (p + 1)) W hy1 htop
  have HLZ := hide hlz
  have HH2 := hide h2
  obtain ⟨b0, off, rfl, -, hc0⟩ := h2.get (k := p + 1) (by omega)
  clear hlz hyl
  go_enter Tryz.func99, Tryz.ntmps99
  go_wp2_with fail
  refine (unhide HLZ _).mono ?_
  rintro e w' ⟨k, rfl, rfl, hk, hlo, hhi⟩
  have HN := hide (norm_len (unhide HH2).sm (unhide HH2).len hlo hhi)
  clear hlo hhi
  go_wp2_with fail
  refine (shl32_calls A n c xs _ k h (by omega) hk).mono ?_
  rintro e w1 ⟨S1, rfl, hbl1, hl1, hsm1, hv1, hb1⟩
  have H1 := hide (And.intro hl1 hv1)
  have h2' := (unhide HH2).below hb1
  clear hl1 hv1
  go_wp2_with fail
  refine (shl32_calls _ (p + 2) d ys _ k h2' (by omega) hk).mono ?_
  rintro e w2 ⟨S2, rfl, hbl2, hl2, hsm2, hv2, hb2⟩
  have hr2 := blk_rd0 (c := p + 3) (n := p + 3) hbl2 hsm2 hl2 (by omega)
  have ht2 : tlen S2 = p + 2 := by rw [← len_dg_val hsm2, hv2]; exact HN.out.2.1
  have hd2 : S2.take (p + 2) = dg (val ys * 2 ^ k) := by rw [← ht2, ← dg_val hsm2, hv2]
  have H2 := hide (And.intro hl2 (And.intro ht2 hd2))
  have htr := trim_calls _ _ _ _ w2 hr2 (by omega)
  rw [ht2] at htr
  have HTR := hide htr
  clear hl2 hv2 ht2 hd2 htr
  go_wp2_with fail
  refine (unhide HTR).mono ?_
  rintro e w' ⟨A2, c2, rfl, rfl, hr3, hA2⟩
  have hA2' := hA2 (by omega)
  subst hA2'
  have hc2 := hr3.cap
  clear hA2 hr3 hr2 HTR
  have hg12 : w.heap.size < w1.heap.size := hbl1.lt
  have hg23 : w1.heap.size < w2.heap.size := hbl2.lt
  go_wp2_with fail
  go_loopw [10] (fun i wr => ∃ (j : Nat) (T Qs : List Nat), j ≤ n - (p + 1) ∧ i = .int .i64 ((j : Int) - 1) ∧ Below w.heap.size w wr ∧ Blk wr w.heap.size (arr T) ∧ Blk wr w1.heap.size (arr S2) ∧ Blk wr w2.heap.size (arr Qs) ∧ Hid (Dl T Qs n (p + 2) (val ys * 2 ^ k) (val xs * 2 ^ k) j)) (fun i _ => (intOf i + 1).toNat)
  case atStart =>
    refine ⟨n - (p + 1), S1, zs (n - (p + 1)), Nat.le_refl _, rfl, (below_then hb1 (Nat.le_refl _) hb2).alloc (by omega) _, (hbl1.below hb2 hg12).alloc _, hbl2.alloc _, Blk.new _ _, ?_⟩
    have := dl_start (n := n) (m := p + 2) H1.out.1 hsm1 H1.out.2 HP.out.2 (by omega) hmn HP.out.1
    rw [show n + 1 - (p + 2) = n - (p + 1) by omega] at this
    exact this
  case round =>
    obtain ⟨j, T, Qs, hj, rfl, hb, hT, hS2, hQ, HI⟩ := hrel
    by_cases h0 : j = 0
    · subst h0
      have hr := blk_rd0 (c := n + 1) (n := n + 1) hT HI.out.smT HI.out.lenT (by omega)
      have hshr := shr_ok _ (n + 1) (n + 1) T wr k hr (by omega) (by omega)
      have HE := hide (dl_end (by rcases Nat.eq_zero_or_pos (val ys) with h0 | h0
                                  · have := pw_pos (p + 2 - 1); have := HP.out.1; omega
                                  · exact h0) HI.out)
      rw [HE.out.2] at hshr
      have HSH := hide hshr
      clear hshr
      go_wp2_with fail
      refine (unhide HSH).mono ?_
      rintro e w5 ⟨A5, c5, rfl, hr5, hb5⟩
      have hQ5 := hQ.below hb5 hQ.lt
      have hrq := blk_rd0 (c := n - (p + 1)) (n := n - (p + 1)) hQ5 HI.out.smQ (by rw [HI.out.lenQ]; omega) (by omega)
      have hlq := len_dg_val HI.out.smQ
      have hdq := dg_val HI.out.smQ
      rw [HE.out.1] at hlq hdq
      have htr := trim_calls _ _ _ _ w5 hrq (by omega)
      rw [← hdq, ← hlq] at htr
      have HTR2 := hide htr
      clear htr hlq hdq
      go_wp2_with fail
      refine (unhide HTR2).mono ?_
      rintro e w6 ⟨A6, c6, rfl, rfl, hr6, -⟩
      go_wp2
      go_ret2
      exact ⟨A6, c6, A5, c5, rfl, hr6, hr5, below_then hb (Nat.le_refl _) hb5⟩
    · obtain ⟨i, rfl⟩ : ∃ i, j = i + 1 := ⟨j - 1, by omega⟩
      have e : ((i + 1 : Nat) : Int) - 1 = i := by omega
      rw [e]
      clear e
      have hlenT := HI.out.lenT
      have hlenQ := HI.out.lenQ
      have hD : 0 < val ys * 2 ^ k := by have := HI.out.less; omega
      have hwin := dl_window HI.out (by omega) HN.out.1
      have hvd := val_dg (val ys * 2 ^ k)
      have hrd := blk_rd hS2 hsm2 (o := 0) (n := p + 2) (c := c2) (by have := H2.out.1; omega) hc2
      rw [List.drop_zero, H2.out.2.2] at hrd
      have hql := ql_calls w.heap.size i p (n + 1 - i) c2 _ T _ wr hT HI.out.smT (by omega) (by omega) hrd (fun _ ad had => by injection had with had; subst had; exact Nat.ne_of_gt hg12)
        (by rw [hvd]; have h1 := hwin.1; have h2 := hwin.2; show pv (T.drop i) (p + 2 + 1) < _; omega) HN.out.2.2 (by omega)
      have hql2 : Calls Tryz.prog 109 #[.slice (some ⟨w.heap.size, i, none⟩) (p + 3) (n + 1 - i), .slice (some ⟨w1.heap.size, 0, none⟩) (p + 2) c2] wr fun e w' =>
          ∃ (q : Nat) (T' : List Nat), e = .returned (.int .u32 (q : Int)) ∧ wr.grownBy w' (some w.heap.size) ∧ Blk w' w.heap.size (arr T') ∧ Hid (Dl T' (Qs.set i q) n (p + 2) (val ys * 2 ^ k) (val xs * 2 ^ k) i) := by
        refine hql.mono ?_
        rintro e w' ⟨T', rfl, hg, hbl, hw, hv⟩
        rw [hvd] at hv
        rw [hvd]
        exact ⟨_, T', rfl, hg, hbl, dl_step hD HI.out (by omega) HN.out.1 hw hv⟩
      have HQL := hide hql2
      have HLQ := hide hlenQ
      clear hql hql2 hwin hvd hrd hD hlenT hlenQ
      go_wp2_with fail
      rw [show i + (p + 2) + 1 - i = p + 3 by omega]
      refine (unhide HQL).mono ?_
      rintro e w5 ⟨q, T', rfl, hg, hbl5, HD⟩
      have hS5 := hS2.grown hg (by simp; omega)
      have hQ5 := hQ.grown hg (by simp; omega)
      have hcell : w5.cell? ⟨w2.heap.size, i, none⟩ = some (.int .u32 (lim Qs i : Nat)) := blk_cell hQ5 (by rw [HLQ.out]; omega)
      have hfr := hQ5.frozen i
      have hb5 : Below w.heap.size w w5 := hb.grown hg hb.size (fun g hg => by injection hg with hg; omega)
      go_wp2
      go_roundw
      case rel =>
        exact ⟨i, T', Qs.set i q, by omega, by go_num, hb5.setCell (by show w.heap.size ≤ w2.heap.size; omega) _, hbl5.far (by show w.heap.size ≠ w2.heap.size; omega) _, hS5.far (by show w1.heap.size ≠ w2.heap.size; omega) _, blk_set hQ5 i q, HD⟩
      case measure => simp [intOf] <;> omega
end Go.Proofs.YtnddhohjfjlaiaaGreatDoor

/-
  divideByLimb.
-/
namespace Go.Proofs.YtnddhohjfjlaiaaGreatDoor
open Go.RowKit
set_option linter.unusedVariables false
set_option linter.unusedSimpArgs false

structure Db (Qs xs : List Nat) (b r j : Nat) : Prop where
  lenQ : Qs.length = xs.length
  smQ : Sm Qs
  less : r < b
  whole : val (xs.drop j) = b * val (Qs.drop j) + r
theorem db_step {Qs xs : List Nat} {b r i : Nat} (hb : b < 4294967296) (hi : i < xs.length) (hx : lim xs i < 4294967296) (h : Db Qs xs b r (i + 1)) :
    (lim xs i + 4294967296 * r) / b < 4294967296 ∧ Db (Qs.set i ((lim xs i + 4294967296 * r) / b)) xs b ((lim xs i + 4294967296 * r) % b) i := by
  obtain ⟨h1, h2, h3, h4⟩ := h
  have hq : (lim xs i + 4294967296 * r) / b < 4294967296 := by
    apply Nat.div_lt_of_lt_mul
    have := Nat.mul_le_mul_right 4294967296 (show r + 1 ≤ b from h3)
    omega
  refine ⟨hq, by rw [List.length_set, h1], h2.set _ hq, Nat.mod_lt _ (by omega), ?_⟩
  rw [val_cons_drop hi, val_cons_drop (T := Qs.set i _) (by rw [List.length_set]; omega), lim_set_eq (by omega), List.drop_set_of_lt (by omega), h4, Nat.mul_add, Nat.mul_add]
  have e := Nat.div_add_mod (lim xs i + 4294967296 * r) b
  rw [Nat.mul_left_comm b 4294967296]
  omega
def GivesU (w : World) (xs : List Nat) (r : Nat) (e : Ending) (w' : World) : Prop :=
  ∃ A c, e = .returned (.tuple #[.slice A xs.length c, .int .u64 (r : Int)]) ∧ Rd w' A xs.length c xs ∧ Below w.heap.size w w'
theorem dbl_calls (A : Option Addr) (n c : Nat) (xs : List Nat) (w : World) (b : Nat) (h : Rd w A n c xs) (hn : n ≤ 1048576) (hb0 : 0 < b) (hbB : b < 4294967296) :
    Calls Tryz.prog 98 #[.slice A n c, .int .u64 (b : Int)] w (GivesU w (dg (val xs / b)) (val xs % b)) := by
  have hmk := fun W => run_mk 23 (.inr rfl) n (n : Int) rfl (by omega) W
  have hbn : ((b : Int) == 0) = false := by simp; omega
  have HL := hide h.len
  go_enter Tryz.func98, Tryz.ntmps98
  go_wp2
  go_loopw [7, 8] (fun rv i wr => ∃ (j r : Nat) (Qs : List Nat), j ≤ n ∧ i = .int .i64 ((j : Int) - 1) ∧ rv = .int .u64 r ∧ r < b ∧ Below w.heap.size w wr ∧ Blk wr w.heap.size (arr Qs) ∧ Hid (Db Qs xs b r j)) (fun _ i _ => (intOf i + 1).toNat)
  case atStart =>
    exact ⟨n, 0, zs n, Nat.le_refl _, rfl, rfl, hb0, (Below.refl _ _).alloc (Nat.le_refl _) _, Blk.new _ _, ⟨by rw [zs_len, HL.out], zs_sm _, hb0, by
      rw [List.drop_of_length_le (by rw [HL.out]; exact Nat.le_refl _), List.drop_of_length_le (by rw [zs_len]; exact Nat.le_refl _)]; simp [val]⟩⟩
  case round =>
    obtain ⟨j, r, Qs, hj, rfl, rfl, hr, hb, hbl, HI⟩ := hrel
    by_cases h0 : j = 0
    · subst h0
      have hlq := HI.out.lenQ.trans HL.out
      have hrq := blk_rd0 (c := n) (n := n) hbl HI.out.smQ hlq (by omega)
      have hw := HI.out.whole
      have hq : val Qs = val xs / b ∧ val xs % b = r := by
        rw [List.drop_zero, List.drop_zero] at hw
        rw [hw]
        exact ⟨by rw [Nat.mul_add_div hb0, Nat.div_eq_of_lt hr, Nat.add_zero], by rw [Nat.mul_add_mod, Nat.mod_eq_of_lt hr]⟩
      have hlq := len_dg_val HI.out.smQ
      have hdq := dg_val HI.out.smQ
      rw [hq.1] at hlq hdq
      have htr := trim_calls _ _ _ _ wr hrq (by omega)
      rw [← hdq, ← hlq] at htr
      have HTR := hide htr
      have HQ := hide hq.2
      clear htr hlq hdq hw hq
      go_wp2_with fail
      refine (unhide HTR).mono ?_
      rintro e w6 ⟨A6, c6, rfl, rfl, hr6, -⟩
      go_wp2
      go_ret2
      exact ⟨A6, c6, by rw [HQ.out]; rfl, hr6, hb⟩
    · obtain ⟨i, rfl⟩ : ∃ i, j = i + 1 := ⟨j - 1, by omega⟩
      have e : ((i + 1 : Nat) : Int) - 1 = i := by omega
      rw [e]
      clear e
      have hx := h.sm.lim i
      have hst := db_step hbB (by rw [HL.out]; omega) hx HI.out
      have hz := or_lo hx (show r < 4294967296 by omega)
      obtain ⟨z, hzz⟩ : ∃ z, z = lim xs i + 4294967296 * r := ⟨_, rfl⟩
      rw [← hzz] at hz hst
      obtain ⟨q, hq⟩ : ∃ q, q = z / b := ⟨_, rfl⟩
      have hq1 : (z : Int) / (b : Int) = (q : Int) := by rw [hq]; simp
      rw [← hq] at hst
      have hqB : q < 4294967296 := hst.1
      obtain ⟨r2, hr2⟩ : ∃ r2, r2 = z % b := ⟨_, rfl⟩
      have hr21 : (z : Int) % (b : Int) = (r2 : Int) := by rw [hr2]; simp
      rw [← hr2] at hst
      have hr2b : r2 < b := by rw [hr2]; exact Nat.mod_lt _ hb0
      have hzb : z ≤ 18446744073709551615 := by omega
      have hcell : wr.cell? ⟨w.heap.size, i, none⟩ = some (.int .u32 (lim Qs i : Nat)) := blk_cell hbl (by have := HI.out.lenQ; have := HL.out; omega)
      have hfr := hbl.frozen i
      obtain ⟨b1, o1, rfl, -, hc1⟩ := (h.below hb).get (k := i) (by omega)
      have HS := hide hst.2
      have HR2 := hide hr21
      clear hst hzz hq hr2
      go_wp2
      go_roundw
      case rel =>
        refine ⟨i, r2, Qs.set i q, by omega, by go_num, ?_, hr2b, hb.setCell (Nat.le_refl _) _, blk_set hbl i q, HS⟩
        first | rfl | exact congrArg _ HR2.out
      case measure => simp [intOf] <;> omega
end Go.Proofs.YtnddhohjfjlaiaaGreatDoor

/-
  DivMod.
-/
namespace Go.Proofs.YtnddhohjfjlaiaaGreatDoor
open Go.RowKit
set_option linter.unusedVariables false
set_option linter.unusedSimpArgs false

/-- Two slices of limbs and an error. -/
def Gives3 (w : World) (xs ys : List Nat) (r : Int) (e : Ending) (w' : World) : Prop :=
  ∃ A c B d, e = .returned (.tuple #[.slice A xs.length c, .slice B ys.length d, .int .i64 r]) ∧ Rd w' A xs.length c xs ∧ Rd w' B ys.length d ys ∧ Below w.heap.size w w'
theorem of_int (i : Int) (k : Nat) (w : World) (hi : i = (k : Int)) (hk : k ≤ 18446744073709551615) : Calls Tryz.prog 33 #[.int .u64 i] w (Gives w (dg k)) := by
  subst hi
  exact of_calls k w hk
theorem u64_two {xs : List Nat} (hs : Sm xs) (h : xs.length ≤ 2) : val xs ≤ 18446744073709551615 := by
  have h0 := hs.lim 0
  have h1 := hs.lim 1
  rw [← val_two h]
  omega
section
variable (A B : Option Addr) (n m c d : Nat) (xs ys : List Nat) (w : World) (h : Rd w A n c xs) (h2 : Rd w B m d ys) (hn : n ≤ 65536) (hm : m ≤ 65536)
include h h2 hn hm
theorem dm_zero (h0 : val ys = 0) : Calls Tryz.prog 79 #[.slice A n c, .slice B m d] w (Gives3 w [] [] 3) := by
  have hn4 : n ≤ 4194304 := by omega
  have hm4 : m ≤ 4194304 := by omega
  have ht : tlen ys = 0 := tlen_zero_iff.2 h0
  have e0 : (((tlen ys : Nat) : Int) == 0) = true := by simp; omega
  clear ht h0
  go_enter Tryz.func79, Tryz.ntmps79
  go_wp2_with (first
      | (go_at_call 53; (with_reducible refine (trim_calls A n c xs _ h hn4).mono ?_); rintro e w' ⟨A1, c1, rfl, rfl, hr1, -⟩)
      | (go_at_call 53; (with_reducible refine (trim_calls B m d ys _ h2 hm4).mono ?_); rintro e w' ⟨A2, c2, rfl, rfl, hr2, -⟩))
  go_ret3
  exact ⟨none, 0, none, 0, rfl, Rd.empty _ _ _, Rd.empty _ _ _, Below.refl _ _⟩
theorem dm_less (hlt : val xs < val ys) : Calls Tryz.prog 79 #[.slice A n c, .slice B m d] w (Gives3 w [] (dg (val xs)) 0) := by
  have hn4 : n ≤ 4194304 := by omega
  have hm4 : m ≤ 4194304 := by omega
  have ht : tlen ys ≠ 0 := fun h0 => by have := tlen_zero_iff.1 h0; omega
  have e0 : (((tlen ys : Nat) : Int) == 0) = false := by simp; omega
  have hx := tlen_le xs
  have hy := tlen_le ys
  rw [h.len] at hx
  rw [h2.len] at hy
  have hsg : sg (val (xs.take (tlen xs))) (val (ys.take (tlen ys))) = -1 := by rw [val_trim h.sm, val_trim h2.sm]; exact sg_lt hlt
  have HV := hide (val_trim h.sm)
  have HS := hide hsg
  have hx1 : tlen xs ≤ 1048576 := by omega
  have hy1 : tlen ys ≤ 1048576 := by omega
  clear ht hlt hsg
  go_enter Tryz.func79, Tryz.ntmps79
  go_wp2_with (first
      | (go_at_call 53; (with_reducible refine (trim_calls A n c xs _ h hn4).mono ?_); rintro e w' ⟨A1, c1, rfl, rfl, hr1, -⟩)
      | (go_at_call 53; (with_reducible refine (trim_calls B m d ys _ h2 hm4).mono ?_); rintro e w' ⟨A2, c2, rfl, rfl, hr2, -⟩)
      | (go_at_call 65; refine (cmp_calls _ _ _ _ _ _ _ _ _ (-1) hr1 hr2 hx1 hy1 HS.out).mono ?_; rintro e w' ⟨rfl, q, rfl⟩)
      | (go_at_call 34; refine (make_calls _ _ _ _ _ (hr1.below (below_drewN (Below.refl _ _) q)) hx1).mono ?_; rintro e w' ⟨A3, c3, rfl, hr3, hb3⟩))
  go_ret3
  have hv := HV.out
  rw [hv] at hr3
  exact ⟨none, 0, A3, c3, by rw [← hv]; rfl, Rd.empty _ _ _, hr3, below_then (below_drewN (Below.refl _ _) q) (Nat.le_refl _) hb3⟩
set_option maxHeartbeats 2000000 in
theorem dm_small (hle : val ys ≤ val xs) (h0 : 0 < val ys) (hx2 : tlen xs ≤ 2) : Calls Tryz.prog 79 #[.slice A n c, .slice B m d] w (Gives3 w (dg (val xs / val ys)) (dg (val xs % val ys)) 0) := by
  have hn4 : n ≤ 4194304 := by omega
  have hm4 : m ≤ 4194304 := by omega
  have ht : tlen ys ≠ 0 := fun h0 => by have := tlen_zero_iff.1 h0; omega
  have e0 : (((tlen ys : Nat) : Int) == 0) = false := by simp; omega
  have hy2 : tlen ys ≤ 2 := Nat.le_trans (tlen_mono h2.sm h.sm hle) hx2
  obtain ⟨r, hr, hr0⟩ : ∃ r, sg (val (xs.take (tlen xs))) (val (ys.take (tlen ys))) = r ∧ 0 ≤ r := ⟨_, rfl, by rw [val_trim h.sm, val_trim h2.sm]; unfold sg; rw [if_neg (by omega)]; split <;> omega⟩
  have hX := u64_two (h.sm.take (tlen xs)) (by rw [List.length_take]; omega)
  have hvx : lim (xs.take (tlen xs)) 0 + 4294967296 * lim (xs.take (tlen xs)) 1 = val xs := by rw [val_two (by rw [List.length_take]; omega), val_trim h.sm]
  have hvy : lim (ys.take (tlen ys)) 0 + 4294967296 * lim (ys.take (tlen ys)) 1 = val ys := by rw [val_two (by rw [List.length_take]; omega), val_trim h2.sm]
  rw [val_trim h.sm] at hX
  have hx1 : tlen xs ≤ 1048576 := by omega
  have hy1 : tlen ys ≤ 1048576 := by omega
  generalize val xs = X at hle h0 hvx hX ⊢
  generalize val ys = Y at hle h0 hvy ⊢
  have hY0 : ((Y : Int) == 0) = false := by simp; omega
  have hq1 : X / Y ≤ 18446744073709551615 := Nat.le_trans (Nat.div_le_self _ _) hX
  have HQ := hide (show IntKind.u64.wrap ((X : Int) / (Y : Int)) = ((X / Y : Nat) : Int) by
    have e : (X : Int) / (Y : Int) = ((X / Y : Nat) : Int) := by simp
    rw [e]
    generalize X / Y = Z at hq1 ⊢
    exact IntWalk.u64_in _ ⟨by omega, by omega⟩)
  have HQ' := hide (show (X : Int) / (Y : Int) = ((X / Y : Nat) : Int) by simp)
  have HR' := hide (show (X : Int) % (Y : Int) = ((X % Y : Nat) : Int) by simp)
  have HR := hide (show (X : Int).tmod (Y : Int) = ((X % Y : Nat) : Int) by
    rw [Int.tmod_eq_emod_of_nonneg (by omega)]; simp)
  have hq2 : X % Y ≤ 18446744073709551615 := Nat.le_trans (Nat.mod_le _ _) hX
  have HS := hide hr
  have HVX := hide hvx
  have HVY := hide hvy
  have H1 := hide hq1
  have H2 := hide hq2
  clear ht hr hvx hvy hq1 hq2 hle
  go_enter Tryz.func79, Tryz.ntmps79
  go_wp2_with (first
      | (go_at_call 53; (with_reducible refine (trim_calls A n c xs _ h hn4).mono ?_); rintro e w' ⟨A1, c1, rfl, rfl, hr1, -⟩)
      | (go_at_call 53; (with_reducible refine (trim_calls B m d ys _ h2 hm4).mono ?_); rintro e w' ⟨A2, c2, rfl, rfl, hr2, -⟩)
      | (go_at_call 65; refine (cmp_calls _ _ _ _ _ _ _ _ _ r hr1 hr2 hx1 hy1 HS.out).mono ?_; rintro e w' ⟨rfl, q, rfl⟩)
      | (go_at_call 92; (with_reducible refine (low_at A1 _ _ _ _ X HVX.out (hr1.below (below_drewN (Below.refl _ _) q))).mono ?_); rintro e w' ⟨rfl, rfl⟩)
      | (go_at_call 92; (with_reducible refine (low_at A2 _ _ _ _ Y HVY.out (hr2.below (below_drewN (Below.refl _ _) q))).mono ?_); rintro e w' ⟨rfl, rfl⟩))
  clear h h2 hr1 hr2 HVX HVY HS
  go_region_with (first
      | (go_at_call 33; (with_reducible refine (of_int (IntKind.u64.wrap ((X : Int) / (Y : Int))) (X / Y) _ HQ.out H1.out).mono ?_); rintro e w1 ⟨A4, c4, rfl, hr4, hb4⟩)
      | (go_at_call 33; (with_reducible refine (of_int ((X : Int).tmod (Y : Int)) (X % Y) _ HR.out H2.out).mono ?_); rintro e w2 ⟨A5, c5, rfl, hr5, hb5⟩)
      | (go_at_call 33; (with_reducible refine (of_int ((X : Int) / (Y : Int)) (X / Y) _ HQ'.out H1.out).mono ?_); rintro e w1 ⟨A4, c4, rfl, hr4, hb4⟩)
      | (go_at_call 33; (with_reducible refine (of_int ((X : Int) % (Y : Int)) (X % Y) _ HR'.out H2.out).mono ?_); rintro e w2 ⟨A5, c5, rfl, hr5, hb5⟩))
  all_goals go_wp2
  all_goals go_ret3
  all_goals exact ⟨A4, c4, A5, c5, rfl, hr4.below hb5, hr5, below_then (below_then ((below_drewN (Below.refl _ _) q).drew) (Nat.le_refl _) hb4) (Nat.le_refl _) hb5⟩
end
end Go.Proofs.YtnddhohjfjlaiaaGreatDoor

/-
  DivMod, whole.
-/
namespace Go.Proofs.YtnddhohjfjlaiaaGreatDoor
open Go.RowKit
set_option linter.unusedVariables false
set_option linter.unusedSimpArgs false
section
variable (A B : Option Addr) (n m c d : Nat) (xs ys : List Nat) (w : World) (h : Rd w A n c xs) (h2 : Rd w B m d ys) (hn : n ≤ 65536) (hm : m ≤ 65536)
include h h2 hn hm
theorem dm_one (hle : val ys ≤ val xs) (h1 : tlen ys = 1) (hx2 : 2 < tlen xs) : Calls Tryz.prog 79 #[.slice A n c, .slice B m d] w (Gives3 w (dg (val xs / val ys)) (dg (val xs % val ys)) 0) := by
  have hn4 : n ≤ 4194304 := by omega
  have hm4 : m ≤ 4194304 := by omega
  obtain ⟨r, hr, hr0⟩ : ∃ r, sg (val (xs.take (tlen xs))) (val (ys.take 1)) = r ∧ 0 ≤ r := ⟨_, rfl, by rw [← h1, val_trim h.sm, val_trim h2.sm]; unfold sg; rw [if_neg (by omega)]; split <;> omega⟩
  have hv : lim (ys.take 1) 0 = val ys := by
    have h3 : lim (ys.take 1) 1 = 0 := lim_of_ge (by rw [List.length_take]; omega)
    have h4 := val_two (xs := ys.take 1) (by rw [List.length_take]; omega)
    rw [h3] at h4
    rw [← h1] at h4 ⊢
    rw [val_trim h2.sm] at h4
    omega
  have hb0 : 0 < val ys := by
    rcases Nat.eq_zero_or_pos (val ys) with h0 | h0
    · have := tlen_zero_iff.2 h0; omega
    · exact h0
  have hbB : val ys < 4294967296 := by rw [← hv]; exact (h2.sm.take 1).lim 0
  have hx := tlen_le xs
  rw [h.len] at hx
  have hx1 : tlen xs ≤ 1048576 := by omega
  have htr : Calls Tryz.prog 53 #[.slice B m d] w fun e w' => ∃ A' c', e = .returned (.slice A' 1 c') ∧ w = w' ∧ Rd w A' 1 c' (ys.take 1) := by
    have := trim_calls B m d ys w h2 hm4
    rw [h1] at this
    exact this.mono fun _ _ ⟨A', c', he, hw, hr, _⟩ => ⟨A', c', he, hw, hr⟩
  have hdb : ∀ (A1 : Option Addr) (c1 : Nat) (W : World), Rd W A1 (tlen xs) c1 (xs.take (tlen xs)) → Calls Tryz.prog 98 #[.slice A1 (tlen xs) c1, .int .u64 (val ys : Int)] W (GivesU W (dg (val xs / val ys)) (val xs % val ys)) := by
    intro A1 c1 W hr
    have := dbl_calls A1 (tlen xs) c1 _ W (val ys) hr hx1 hb0 hbB
    rwa [val_trim h.sm] at this
  have hrm : val xs % val ys ≤ 18446744073709551615 := by have := Nat.mod_lt (val xs) hb0; omega
  have HT := hide htr
  have HDB := hide hdb
  have HS := hide hr
  have HRM := hide hrm
  have hd2 : decide (((tlen xs : Nat) : Int) ≤ 2) = false := by simp; omega
  clear hr h1 htr hdb hrm hle
  generalize val ys = Y at *
  generalize val xs = X at *
  have hvy : ((lim (ys.take 1) 0 : Nat) : Int) = (Y : Int) := by omega
  clear hv
  go_enter Tryz.func79, Tryz.ntmps79
  go_wp2_with (first
      | (go_at_call 53; (with_reducible refine (trim_calls A n c xs _ h hn4).mono ?_); rintro e w' ⟨A1, c1, rfl, rfl, hr1, -⟩)
      | (go_at_call 53; (with_reducible refine (unhide HT).mono ?_); rintro e w' ⟨A2, c2, rfl, rfl, hr2⟩; obtain ⟨b0, o0, rfl, -, hc0⟩ := hr2.get0 (by omega))
      | (go_at_call 65; refine (cmp_calls _ _ _ _ _ _ _ _ _ r hr1 hr2 hx1 (by omega) HS.out).mono ?_; rintro e w' ⟨rfl, q, rfl⟩)
      | (go_at_call 98; refine ((unhide HDB) A1 c1 _ (hr1.below (below_drewN (Below.refl _ _) q))).mono ?_; rintro e w' ⟨A3, c3, rfl, hr3, hb3⟩)
      | (go_at_call 33; refine (of_int _ (X % Y) _ rfl HRM.out).mono ?_; rintro e w5 ⟨A5, c5, rfl, hr5, hb5⟩))
  go_ret3
  exact ⟨A3, c3, A5, c5, rfl, hr3.below hb5, hr5, below_then (below_then (below_drewN (Below.refl _ _) q) (Nat.le_refl _) hb3) (Nat.le_refl _) hb5⟩
theorem dm_long (hle : val ys ≤ val xs) (h1 : 2 ≤ tlen ys) (hx2 : 2 < tlen xs) : Calls Tryz.prog 79 #[.slice A n c, .slice B m d] w (Gives3 w (dg (val xs / val ys)) (dg (val xs % val ys)) 0) := by
  have hn4 : n ≤ 4194304 := by omega
  have hm4 : m ≤ 4194304 := by omega
  obtain ⟨p, hp⟩ : ∃ p, tlen ys = p + 2 := ⟨tlen ys - 2, by omega⟩
  obtain ⟨r, hr, hr0⟩ : ∃ r, sg (val (xs.take (tlen xs))) (val (ys.take (p + 2))) = r ∧ 0 ≤ r := ⟨_, rfl, by rw [← hp, val_trim h.sm, val_trim h2.sm]; unfold sg; rw [if_neg (by omega)]; split <;> omega⟩
  have hx := tlen_le xs
  rw [h.len] at hx
  have hy := tlen_le ys
  rw [h2.len] at hy
  have hx1 : tlen xs ≤ 1048576 := by omega
  have hy1 : p + 2 ≤ 1048576 := by omega
  have htr : Calls Tryz.prog 53 #[.slice B m d] w fun e w' => ∃ A' c', e = .returned (.slice A' (p + 2) c') ∧ w = w' ∧ Rd w A' (p + 2) c' (ys.take (p + 2)) := by
    have := trim_calls B m d ys w h2 hm4
    rw [hp] at this
    exact this.mono fun _ _ ⟨A', c', he, hw, hr, _⟩ => ⟨A', c', he, hw, hr⟩
  have hdl : ∀ (A1 A2 : Option Addr) (c1 c2 : Nat) (W : World), Rd W A1 (tlen xs) c1 (xs.take (tlen xs)) → Rd W A2 (p + 2) c2 (ys.take (p + 2)) → Calls Tryz.prog 99 #[.slice A1 (tlen xs) c1, .slice A2 (p + 2) c2] W (Gives2 W (dg (val xs / val ys)) (dg (val xs % val ys))) := by
    intro A1 A2 c1 c2 W hr1 hr2
    have e2 : val (ys.take (p + 2)) = val ys := by rw [← hp]; exact val_trim h2.sm
    have := dl_calls A1 A2 (tlen xs) p c1 c2 _ _ W hr1 hr2 (by omega) (by rw [e2, val_trim h.sm]; exact hle) (by
      rw [lim_take (by omega)]
      have := tlen_top (xs := ys) (by omega)
      rwa [hp] at this) (by have := tlen_mono h2.sm h.sm hle; omega)
    rwa [val_trim h.sm, e2] at this
  have HT := hide htr
  have HDL := hide hdl
  have HS := hide hr
  have hd2 : decide (((tlen xs : Nat) : Int) ≤ 2) = false := by simp; omega
  clear hr h1 htr hdl hle hp hy
  go_enter Tryz.func79, Tryz.ntmps79
  go_wp2_with (first
      | (go_at_call 53; (with_reducible refine (trim_calls A n c xs _ h hn4).mono ?_); rintro e w' ⟨A1, c1, rfl, rfl, hr1, -⟩)
      | (go_at_call 53; (with_reducible refine (unhide HT).mono ?_); rintro e w' ⟨A2, c2, rfl, rfl, hr2⟩)
      | (go_at_call 65; refine (cmp_calls _ _ _ _ _ _ _ _ _ r hr1 hr2 hx1 hy1 HS.out).mono ?_; rintro e w' ⟨rfl, q, rfl⟩)
      | (go_at_call 99; refine ((unhide HDL) A1 A2 c1 c2 _ (hr1.below (below_drewN (Below.refl _ _) q)) (hr2.below (below_drewN (Below.refl _ _) q))).mono ?_; rintro e w' ⟨A3, c3, A5, c5, rfl, hr3, hr5, hb3⟩))
  go_ret3
  exact ⟨A3, c3, A5, c5, rfl, hr3, hr5, below_then (below_drewN (Below.refl _ _) q) (Nat.le_refl _) hb3⟩
theorem divmod_calls (h0 : 0 < val ys) : Calls Tryz.prog 79 #[.slice A n c, .slice B m d] w (Gives3 w (dg (val xs / val ys)) (dg (val xs % val ys)) 0) := by
  rcases Nat.lt_or_ge (val xs) (val ys) with hlt | hle
  · rw [Nat.div_eq_of_lt hlt, Nat.mod_eq_of_lt hlt]
    exact dm_less A B n m c d xs ys w h h2 hn hm hlt
  · rcases Nat.lt_or_ge 2 (tlen xs) with hx | hx
    · rcases Nat.lt_or_ge (tlen ys) 2 with hy | hy
      · have : tlen ys ≠ 0 := fun e => by have := tlen_zero_iff.1 e; omega
        exact dm_one A B n m c d xs ys w h h2 hn hm hle (by omega) hx
      · exact dm_long A B n m c d xs ys w h h2 hn hm hle hy hx
    · exact dm_small A B n m c d xs ys w h h2 hn hm hle h0 hx
end
end Go.Proofs.YtnddhohjfjlaiaaGreatDoor
