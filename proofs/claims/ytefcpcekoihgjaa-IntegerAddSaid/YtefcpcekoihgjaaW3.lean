/-
  Comparing: Same, the specification's Cmp, cmp.Compare at limbs, Cmp.
-/
import Derived.Test.YtefcpcekoihgjaaW1
import Derived.Test.YtefcpcekoihgjaaShelf
namespace Go.Proofs.Ytefcpcekoihgjaa
open Go.RowKit
set_option linter.unusedVariables false
set_option linter.unusedSimpArgs false

theorem same_calls (A B : Option Addr) (n c d : Nat) (xs : List Nat) (w : World) (h : Rd w A n c xs) (h2 : Rd w B n d xs) (hn : n ≤ 1048576) :
    Calls Try.prog 37 #[.slice A n c, .slice B n d] w fun e w' => e = .returned (.bool true) ∧ ∃ m, w' = w.drewN m := by
  have hnn : ((n : Int) != (n : Int)) = false := by simp
  go_enter Try.func37, Try.ntmps37
  go_wp2
  go_loopw [5] (fun i wr => ∃ k m : Nat, k ≤ n ∧ i = .int .i64 k ∧ wr = w.drewN m) (fun i _ => n - (intOf i).toNat)
  case atStart => exact ⟨0, 0, by omega, rfl, rfl⟩
  case round =>
    obtain ⟨k, m, hk, rfl, rfl⟩ := hrel
    by_cases hkn : k < n
    · obtain ⟨b, off, rfl, _, hc⟩ := h.get hkn
      obtain ⟨b2, off2, rfl, _, hc2⟩ := h2.get hkn
      clear h h2
      go_wp2
      go_quiet (fail)
      go_wp2
      go_roundw
      case rel => exact ⟨k + 1, _, by omega, by go_num, rfl⟩
      case measure => simp [intOf]; omega
    · go_wp2
      go_ret
      exact ⟨rfl, _, rfl⟩

theorem rcmp_calls (A B : Option Addr) (n m c d : Nat) (xs ys : List Nat) (w : World) (r : Int) (h : Rd w A n c xs) (h2 : Rd w B m d ys) (hn : n ≤ 1048576) (hm : m ≤ 1048576) (hr : sg (val xs) (val ys) = r) :
    Calls Try.prog 33 #[.slice A n c, .slice B m d] w fun e w' => e = .returned (.int .i64 r) ∧ w = w' := by
  have HR := hide hr
  have HL := hide (And.intro h.len h2.len)
  clear hr
  go_enter Try.func33, Try.ntmps33
  go_wp2
  go_loop [5] (fun i => ∃ j : Nat, j ≤ max n m ∧ i = .int .i64 ((j : Int) - 1) ∧ Hid (∀ k, j ≤ k → lim xs k = lim ys k)) (fun i => (intOf i + 1).toNat)
  case atStart =>
    refine ⟨max n m, by omega, ?_, fun k hk => ?_⟩
    · exact congrArg _ (by omega)
    · rw [lim_of_ge (by have := HL.out.1; omega), lim_of_ge (by have := HL.out.2; omega)]
  case round =>
    obtain ⟨j, hj, rfl, hz⟩ := hrel
    by_cases h0 : j = 0
    · subst h0
      go_wp2
      go_ret
      refine ⟨ret_int ?_, rfl⟩
      rw [← HR.out, sg_eq (val_eq_of fun k => hz.out k (by omega))]
    · obtain ⟨k, rfl⟩ : ∃ k, j = k + 1 := ⟨j - 1, by omega⟩
      have e : ((k + 1 : Nat) : Int) - 1 = k := by omega
      rw [e]
      clear e
      go_wp2_with (first
        | (go_at_call 55; (with_reducible refine (rlimb_calls A n c xs _ k h).mono ?_); rintro e w' ⟨rfl, rfl⟩)
        | (go_at_call 55; (with_reducible refine (rlimb_calls B m d ys _ k h2).mono ?_); rintro e w' ⟨rfl, rfl⟩))
      · have ht : lim xs k < lim ys k := by assumption
        go_ret
        refine ⟨ret_int ?_, rfl⟩
        rw [← HR.out, sg_lt (val_lt_of h.sm k (fun j hj => hz.out j hj) ht)]
      · have ht : lim ys k < lim xs k := by assumption
        go_ret
        refine ⟨ret_int ?_, rfl⟩
        rw [← HR.out, sg_gt (val_lt_of h2.sm k (fun j hj => (hz.out j hj).symm) ht)]
      · have ht : ¬ lim xs k < lim ys k := by assumption
        have ht2 : ¬ lim ys k < lim xs k := by assumption
        go_round
        case rel =>
          refine ⟨k, by omega, by go_num, fun j hj => ?_⟩
          by_cases he : j = k
          · subst he; omega
          · exact hz.out j (by omega)
        case measure => simp [intOf] <;> omega

theorem cmp32_calls (a b : Nat) (w : World) (r : Int) (ha : a < 4294967296) (hb : b < 4294967296) (hr : sg a b = r) :
    Calls Try.prog 60 #[.int .u32 (a : Int), .int .u32 (b : Int)] w fun e w' => e = .returned (.int .i64 r) ∧ w' = w := by
  have h1 : ((a : Int) != (a : Int)) = false := by simp
  have h2 : ((b : Int) != (b : Int)) = false := by simp
  rcases Nat.lt_trichotomy a b with h | h | h
  · rw [sg_lt h] at hr
    subst hr
    go_enter Try.func60, Try.ntmps60
    go_wp2
    go_ret
    exact ⟨rfl, rfl⟩
  · rw [sg_eq h] at hr
    subst hr
    subst h
    go_enter Try.func60, Try.ntmps60
    go_wp2
    go_ret
    exact ⟨rfl, rfl⟩
  · rw [sg_gt h] at hr
    subst hr
    have hn : ¬ (a : Int) < b := by omega
    go_enter Try.func60, Try.ntmps60
    go_wp2
    go_ret
    exact ⟨rfl, rfl⟩

theorem cmpInt_calls (a b : Nat) (w : World) (r : Int) (hr : sg a b = r) :
    Calls Try.prog 53 #[.int .i64 (a : Int), .int .i64 (b : Int)] w fun e w' => e = .returned (.int .i64 r) ∧ w' = w := by
  refine (Try.cmp_Compare_int a b w).mono ?_
  rintro e w' ⟨rfl, rfl⟩
  refine ⟨ret_int ?_, rfl⟩
  rw [← hr]
  unfold Lib.compareInt sg
  split <;> split <;> (try split) <;> (try split) <;> omega

theorem cmp_calls (A B : Option Addr) (n m c d : Nat) (xs ys : List Nat) (w : World) (r : Int) (h : Rd w A n c xs) (h2 : Rd w B m d ys) (hn : n ≤ 1048576) (hm : m ≤ 1048576) (hr : sg (val xs) (val ys) = r) :
    Calls Try.prog 47 #[.slice A n c, .slice B m d] w fun e w' => e = .returned (.int .i64 r) ∧ ∃ q, w' = w.drewN q := by
  have HR := hide hr
  clear hr
  have hn4 : n ≤ 4194304 := by omega
  have hm4 : m ≤ 4194304 := by omega
  by_cases ht : tlen xs = tlen ys
  · have hne : (((tlen xs : Nat) : Int) != ((tlen ys : Nat) : Int)) = false := by rw [bne_eq_false_iff_eq]; omega
    have hv1 := val_trim h.sm
    have hv2 := val_trim h2.sm
    have htn : tlen xs ≤ 1048576 := by have := tlen_le xs; have := h.len; omega
    have HT := hide (And.intro ht (And.intro hv1 hv2))
    clear ht hv1 hv2
    go_enter Try.func47, Try.ntmps47
    go_wp2_with (first
      | (go_at_call 56; (with_reducible refine (trim_calls A n c xs _ h hn4).mono ?_); rintro e w' ⟨A1, c1, rfl, rfl, hr1, _⟩)
      | (go_at_call 56; (with_reducible refine (trim_calls B m d ys _ h2 hm4).mono ?_); rintro e w' ⟨A2, c2, rfl, rfl, hr2, _⟩))
    go_loopw [5] (fun i wr => ∃ j q : Nat, j ≤ tlen xs ∧ i = .int .i64 ((j : Int) - 1) ∧ Hid (∀ k, j ≤ k → lim (xs.take (tlen xs)) k = lim (ys.take (tlen ys)) k) ∧ wr = w.drewN q) (fun i _ => (intOf i + 1).toNat)
    case atStart =>
      exact ⟨tlen xs, 0, by omega, rfl, fun k hk => by rw [lim_of_ge (by rw [List.length_take]; omega), lim_of_ge (by rw [List.length_take]; have := HT.out.1; omega)], rfl⟩
    case round =>
      obtain ⟨j, q, hj, rfl, hz, rfl⟩ := hrel
      by_cases h0 : j = 0
      · subst h0
        go_wp2
        go_ret
        refine ⟨ret_int ?_, _, rfl⟩
        rw [← HR.out, ← HT.out.2.1, ← HT.out.2.2, sg_eq (val_eq_of fun k => hz.out k (by omega))]
      · obtain ⟨k, rfl⟩ : ∃ k, j = k + 1 := ⟨j - 1, by omega⟩
        have e : ((k + 1 : Nat) : Int) - 1 = k := by omega
        rw [e]
        clear e
        have hkm : k < tlen ys := by have := HT.out.1; omega
        obtain ⟨b, off, rfl, _, hc⟩ := hr1.get (k := k) (by omega)
        obtain ⟨b2, off2, rfl, _, hc2⟩ := hr2.get (k := k) hkm
        have hl1 := hr1.sm.lim k
        have hl2 := hr2.sm.lim k
        have hsg : lim (xs.take (tlen xs)) k ≠ lim (ys.take (tlen ys)) k → sg (lim (xs.take (tlen xs)) k) (lim (ys.take (tlen ys)) k) = r := by
          intro hne
          rw [← HR.out, ← HT.out.2.1, ← HT.out.2.2]
          rcases Nat.lt_or_ge (lim (xs.take (tlen xs)) k) (lim (ys.take (tlen ys)) k) with hl | hl
          · rw [sg_lt hl, sg_lt (val_lt_of hr1.sm k (fun j hj => hz.out j hj) hl)]
          · rw [sg_gt (by omega), sg_gt (val_lt_of hr2.sm k (fun j hj => (hz.out j hj).symm) (by omega))]
        have HSG := hide hsg
        clear hsg
        go_wp2
        go_quiet (fail)
        go_wp2_with fail
        · have ht : ((lim (xs.take (tlen xs)) k : Int) != (lim (ys.take (tlen ys)) k : Int)) = true := by assumption
          have hs := HSG.out (by have := WalkArith.int_ne' ht; omega)
          have HS := hide hs
          clear hs ht
          go_quiet ((go_at_call 60; exact quiet_add_same (cmp32_calls _ _ _ r hl1 hl2 HS.out)))
          go_wp2
          go_ret
          exact ⟨rfl, drewN3 _ _ _ _⟩
        · have ht : ((lim (xs.take (tlen xs)) k : Int) != (lim (ys.take (tlen ys)) k : Int)) = false := by assumption
          go_roundw
          case rel =>
            refine ⟨k, _, by omega, by go_num, fun j hj => ?_, rfl⟩
            by_cases he : j = k
            · subst he; have := WalkArith.int_eq' ht; omega
            · exact hz.out j (by omega)
          case measure => simp [intOf] <;> omega
  · have hne : (((tlen xs : Nat) : Int) != ((tlen ys : Nat) : Int)) = true := by rw [bne_iff_ne]; omega
    have hsg : sg (tlen xs) (tlen ys) = r := by
      rw [← HR.out]
      rcases Nat.lt_or_ge (tlen xs) (tlen ys) with hl | hl
      · rw [sg_lt hl, sg_lt]
        rcases Nat.lt_or_ge (val xs) (val ys) with hv | hv
        · exact hv
        · have := tlen_mono h2.sm h.sm hv; omega
      · rw [sg_gt (by omega), sg_gt]
        rcases Nat.lt_or_ge (val ys) (val xs) with hv | hv
        · exact hv
        · have := tlen_mono h.sm h2.sm hv; omega
    have HS := hide hsg
    clear hsg ht
    go_enter Try.func47, Try.ntmps47
    go_wp2_with (first
      | (go_at_call 56; (with_reducible refine (trim_calls A n c xs _ h hn4).mono ?_); rintro e w' ⟨A1, c1, rfl, rfl, hr1, _⟩)
      | (go_at_call 56; (with_reducible refine (trim_calls B m d ys _ h2 hm4).mono ?_); rintro e w' ⟨A2, c2, rfl, rfl, hr2, _⟩)
      | (go_at_call 53; refine (cmpInt_calls (tlen xs) (tlen ys) _ r HS.out).mono ?_; rintro e w' ⟨rfl, rfl⟩))
    go_ret
    exact ⟨rfl, 0, rfl⟩
end Go.Proofs.Ytefcpcekoihgjaa
