/-
  The walk of DecimalLong.
-/
import Derived.Test.YtjpchbcenbjibaaDoorG5
namespace Go.Proofs.YtjpchbcenbjibaaDoor
open Go.RowKit
set_option linter.unusedVariables false
set_option linter.unusedSimpArgs false

set_option maxHeartbeats 2000000 in
theorem ll_n1 (fr tn sp : Int) (tl : List UInt8) (w : World) (F T : Nat) (hF : fr = (F : Int)) (hT : tn = (T : Int)) (h1 : F ≤ 4100) (h3 : T ≤ 4100) (h4 : tl.length ≤ 20) (hs0 : 0 ≤ sp) (hs1 : sp ≤ 255) (hs2 : sp % 3 = 1) : Calls Tryd.prog 5 #[.agg #[.bool true, .int .i64 fr, .int .i64 tn, .int .u8 sp, .string (bs tl)]] w (fun e w' => e = .returned (.bool true) ∧ Below w.heap.size w w') := by
  subst hF hT
  have d1 : decide ((F : Int) < 0) = false := by simp
  have d2 : decide ((4100 : Int) < (F : Int)) = false := by simp; omega
  have d3 : decide ((T : Int) < 0) = false := by simp
  have d4 : decide ((4100 : Int) < (T : Int)) = false := by simp; omega
  have hz := bs_size tl
  have d5 : decide ((20 : Int) < (tl.length : Int)) = false := by simp; omega
  have bx := Bl.new w (.bool true) (.int .i64 (F : Int)) (.int .i64 (T : Int)) (.int .u8 sp) (.string (bs tl))
  have F0 := (Below.refl w.heap.size w).alloc (Nat.le_refl _) (.cells #[.bool true, .int .i64 (F : Int), .int .i64 (T : Int), .int .u8 sp, .string (bs tl)] 35)
  go_enter Tryd.func5, Tryd.ntmps5
  go_wp2_with fail
  refine (awake4 _).mono ?_
  rintro e w1 ⟨rfl, b1⟩
  have by_ := bx.below b1 bx.lt
  have F1 := below_then F0 (Nat.le_refl _) b1
  have c0_ := by_.cell0
  have c1_ := by_.cell1
  have c2_ := by_.cell2
  have c3_ := by_.cell3
  have c4_ := by_.cell4
  have gB : w.heap.size + 1 ≤ w1.heap.size := by_.lt
  have ow0 := OwB.empty w1 (w.heap.size + 1) gB
  have bz := by_.alloc (.cells #[] 5)
  have F2 := F1.alloc F1.size (.cells #[] 5)
  have gB2 : w.heap.size + 1 ≤ (w1.alloc (.cells #[] 5)).heap.size := by simp; omega
  have e0_ := bz.cell0
  have e1_ := bz.cell1
  have e2_ := bz.cell2
  have e3_ := bz.cell3
  have e4_ := bz.cell4
  go_wp2_with (at_builtin; refine wpList_appB rfl (.tmp 45) (.tmp 46) rfl (w.heap.size + 1) _ (0) _ _ rfl (ow0.alloc _) _ 45 45 rfl rfl (new_cell2 _ _ _ _) (by omega) (by simp; omega) ?_; intro g' c' w' ow' hb')
  have bz2 := (bz.alloc _).below hb' (Nat.lt_succ_self _)
  have F3 := (F2.alloc F2.size _).trans (hb'.mono (Nat.le_succ _))
  have gB3 := Nat.le_trans (show w.heap.size + 1 ≤ _ by simp; omega) hb'.size
  go_loopw [3, 4] (fun bv iv wr => ∃ (i g c : Nat) (l : List UInt8), i ≤ F ∧ iv = .int .i64 (i : Int) ∧ bv = .slice (some ⟨g, 0, none⟩) (1 + i) c ∧ OwB wr (w.heap.size + 1) g (1 + i) c l ∧ Bl wr w.heap.size (.bool true) (.int .i64 (F : Int)) (.int .i64 (T : Int)) (.int .u8 sp) (.string (bs tl)) ∧ Below w.heap.size w wr ∧ w.heap.size + 1 ≤ wr.heap.size) (fun _ iv _ => F - (intOf iv).toNat)
  case atStart => exact ⟨0, _, _, _, Nat.zero_le _, rfl, rfl, ow', bz2, F3, gB3⟩
  case round =>
    obtain ⟨i, g, c, l, hi, rfl, rfl, hown, hbl, hF, hgb⟩ := hrel
    have q0 := hbl.cell0
    have q1 := hbl.cell1
    have q2 := hbl.cell2
    have q3 := hbl.cell3
    have q4 := hbl.cell4
    by_cases hlt : i < F
    · go_wp2_with (at_builtin; refine wpList_appB rfl (.tmp 54) (.tmp 55) rfl (w.heap.size + 1) _ (1 + i) _ _ rfl (hown.alloc _) _ 48 48 rfl rfl (new_cell _ _ _) (by omega) (by simp; omega) ?_; intro g' c' w' ow' hb')
      go_roundw
      case rel => exact ⟨i + 1, g', c', _, by omega, by go_num, (by congr 1 <;> omega), ow', (hbl.alloc _).below hb' (Nat.lt_succ_self _), (hF.alloc hF.size _).trans (hb'.mono (Nat.le_succ _)), Nat.le_trans (by simp; omega) hb'.size⟩
      case measure => simp [intOf]; omega
    · obtain rfl : F = i := by omega
      go_wp2_with (at_builtin; refine wpList_appB rfl (.tmp 61) (.tmp 67) rfl (w.heap.size + 1) _ (1 + F) _ _ rfl (hown.alloc _) _ 46 46 rfl rfl (new_cell _ _ _) (by omega) (by simp; omega) ?_; intro g' c' w' ow' hb')
      have bl2 := (hbl.alloc _).below hb' (Nat.lt_succ_self _)
      have hF2 := (hF.alloc hF.size _).trans (hb'.mono (Nat.le_succ _))
      have hg2 := Nat.le_trans (show w.heap.size + 1 ≤ _ by simp; omega) hb'.size
      go_loopw [3, 5] (fun bv iv wr => ∃ (i g c : Nat) (l : List UInt8), i ≤ T ∧ iv = .int .i64 (i : Int) ∧ bv = .slice (some ⟨g, 0, none⟩) (1 + F + 1 + i) c ∧ OwB wr (w.heap.size + 1) g (1 + F + 1 + i) c l ∧ Bl wr w.heap.size (.bool true) (.int .i64 (F : Int)) (.int .i64 (T : Int)) (.int .u8 sp) (.string (bs tl)) ∧ Below w.heap.size w wr ∧ w.heap.size + 1 ≤ wr.heap.size) (fun _ iv _ => T - (intOf iv).toNat)
      case atStart => exact ⟨0, _, _, _, Nat.zero_le _, rfl, rfl, ow', bl2, hF2, hg2⟩
      case round =>
        obtain ⟨i, g, c, l, hi, rfl, rfl, hown, hbl, hF, hgb⟩ := hrel
        have q0 := hbl.cell0
        have q1 := hbl.cell1
        have q2 := hbl.cell2
        have q3 := hbl.cell3
        have q4 := hbl.cell4
        by_cases hlt : i < T
        · go_wp2_with (at_builtin; refine wpList_appB rfl (.tmp 75) (.tmp 76) rfl (w.heap.size + 1) _ (1 + F + 1 + i) _ _ rfl (hown.alloc _) _ 48 48 rfl rfl (new_cell _ _ _) (by omega) (by simp; omega) ?_; intro g' c' w' ow' hb')
          go_roundw
          case rel => exact ⟨i + 1, g', c', _, by omega, by go_num, (by congr 1 <;> omega), ow', (hbl.alloc _).below hb' (Nat.lt_succ_self _), (hF.alloc hF.size _).trans (hb'.mono (Nat.le_succ _)), Nat.le_trans (by simp; omega) hb'.size⟩
          case measure => simp [intOf]; omega
        · obtain rfl : T = i := by omega
          have HC := convB _ _ _ _ _ _ hown
          have hl_ := hown.len
          have hcat : bs l ++ bs tl = bs (l ++ tl) := bs_append l tl
          obtain ⟨N_, hN_⟩ : ∃ k, l.length = k := ⟨_, rfl⟩
          have hN1 : N_ ≤ 8300 := by omega
          have hz2 : (bs l).size = N_ := by rw [bs_size, hN_]
          have hz3 : ¬ (9223372036854775807 < N_ + tl.length) := by omega
          have hL : (l ++ tl).length ≤ 100000 := by rw [List.length_append]; omega
          have hq := parse_qs (l ++ tl) 16384 (by rw [List.length_append]; omega)
          obtain ⟨r, hr⟩ : ∃ r, pparse (l ++ tl) = r := ⟨_, rfl⟩
          obtain ⟨q, i, k⟩ := r
          rw [hr] at hq
          have hq1 : q.num.natAbs < pw 16384 := hq.1
          have hq2 : q.den < pw 16384 := hq.2
          obtain ⟨I, hI⟩ : ∃ I : Int, (i : Int) = I := ⟨_, rfl⟩
          obtain ⟨E, hE⟩ : ∃ I : Int, (k : Int) = I := ⟨_, rfl⟩
          have HR := hide hr
          have HI := hide hI
          have HE := hide hE
          have x1 : (I == I) = true := by simp
          have x2 : (E == E) = true := by simp
          clear hr hI hE hq hl_ hN_ d1 d2 d3 d4 d5 hs2 hlt
          go_wp2_with fail
          refine (parse_at (l ++ tl) q _ _ I E _ hL HR.out HI.out HE.out).mono ?_
          rintro e w5 ⟨s5, A5, n5, c5, B5, m5, d5, rfl, x5, b5⟩
          have F5 := below_then hF (Nat.le_refl _) b5
          have z5 := Sq.new w5 (.bool s5) (.slice A5 n5 c5) (.slice B5 m5 d5)
          have x6 := x5.alloc (EQ s5 A5 n5 c5 B5 m5 d5)
          have F6 := F5.alloc F5.size (EQ s5 A5 n5 c5 B5 m5 d5)
          have y0 := z5.cell0
          have y1 := z5.cell1
          have y2 := z5.cell2
          go_wp2_with fail
          refine (rparse_at (l ++ tl) q _ _ I E _ hL HR.out HI.out HE.out).mono ?_
          rintro e w7 ⟨s7, A7, n7, c7, B7, m7, d7, rfl, x7, b7⟩
          have z7 := z5.below b7 z5.lt
          have x8 := x6.below b7
          have F7 := below_then F6 (Nat.le_refl _) b7
          have lt7 := z7.lt
          have z8 := Sq.new w7 (.bool s7) (.slice A7 n7 c7) (.slice B7 m7 d7)
          have z9 := z7.alloc (EQ s7 A7 n7 c7 B7 m7 d7)
          have x9 := x8.alloc (EQ s7 A7 n7 c7 B7 m7 d7)
          have xA := x7.alloc (EQ s7 A7 n7 c7 B7 m7 d7)
          have F8 := F7.alloc F7.size (EQ s7 A7 n7 c7 B7 m7 d7)
          have u0 := z8.cell0
          have u1 := z8.cell1
          have u2 := z8.cell2
          have v0 := z9.cell0
          have v1 := z9.cell1
          have v2 := z9.cell2
          go_wp2_with fail
          refine (same_q _ _ _ _ _ _ _ _ _ _ _ _ _ _ q _ x9 xA (x9.ln hq1) (x9.ld hq2)).mono ?_
          rintro e wA ⟨rfl, bA⟩
          go_wp2
          go_ret
          exact ⟨rfl, below_then F8 (Nat.le_refl _) bA⟩
end Go.Proofs.YtjpchbcenbjibaaDoor
