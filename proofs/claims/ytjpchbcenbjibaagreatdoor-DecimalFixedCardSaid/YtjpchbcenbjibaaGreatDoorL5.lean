/-
  awake of the statements of decimal.
-/
import Derived.Test.YtjpchbcenbjibaaGreatDoorL4
namespace Go.Proofs.YtjpchbcenbjibaaGreatDoor
open Go.RowKit
set_option linter.unusedVariables false
set_option linter.unusedSimpArgs false

def GA (w : World) (q : Rat) (I E : Int) (e : Ending) (w' : World) : Prop := ∃ s A n c B m d, e = .returned (.tuple #[.agg #[.bool s, .slice A n c, .slice B m d], .int .i64 I, .int .i64 E]) ∧ Cq w' s A n c B m d q ∧ Below w.heap.size w w'
theorem ga_of {w w' : World} {r : Rat × Nat × Nat} {e : Ending} (h : GP w r e w') (q : Rat) (i k : Nat) (I E : Int) (hr : r = (q, i, k)) (hI : (i : Int) = I) (hE : (k : Int) = E) : GA w q I E e w' := by
  subst hr hI hE
  exact h
theorem parse_at (l : List UInt8) (q : Rat) (i k : Nat) (I E : Int) (w : World) (hl : l.length ≤ 100000) (hr : pparse l = (q, i, k)) (hI : (i : Int) = I) (hE : (k : Int) = E) : Calls Tryz.prog 10 #[.string (bs l)] w (GA w q I E) :=
  (parse_calls l w hl).mono fun _ _ h => ga_of h q i k I E hr hI hE
theorem fixed_at (s : Bool) (A : Option Addr) (n c : Nat) (B : Option Addr) (m d : Nat) (q : Rat) (K p : Nat) (P : Int) (L : List UInt8) (w : World) (hP : P = (p : Int)) (hL : ffix q p = L) (h : Cq w s A n c B m d q) (hs : Qs K q) (hK : K ≤ 1000) (hK1 : 1 ≤ K) (hp : p ≤ 4000) :
    Calls Tryz.prog 8 #[.agg #[.bool s, .slice A n c, .slice B m d], .int .i64 P] w (Asks w (.tuple #[.string (bs L), .int .i64 0])) := by
  subst hP hL
  exact fixed_q s A n c B m d q K p w h hs hK hK1 hp
theorem text_at (s : Bool) (A : Option Addr) (n c : Nat) (B : Option Addr) (m d : Nat) (q : Rat) (K : Nat) (L : List UInt8) (w : World) (hL : txt q = L) (h : Cq w s A n c B m d q) (hs : Qs K q) (hK : K ≤ 1000) (hK1 : 1 ≤ K) :
    Calls Tryz.prog 19 #[.agg #[.bool s, .slice A n c, .slice B m d]] w (Asks w (.string (bs L))) := by
  subst hL
  exact text_q s A n c B m d q K w h hs hK hK1
theorem qs_lit {q : Rat} (h : decide (q.num.natAbs < 4294967296 ∧ q.den < 4294967296) = true) : Qs 1 q := by
  have := of_decide_eq_true h
  exact ⟨by simpa [pw] using this.1, by simpa [pw] using this.2⟩
set_option maxHeartbeats 1000000 in
theorem awake4 (w : World) : Calls Tryz.prog 6 #[] w (Asks w (.bool true)) := by
  have q1 : Qs 1 (-1/8 : Rat) := qs_lit (by decide +kernel)
  have q2 : Qs 1 (-3/4 : Rat) := qs_lit (by decide +kernel)
  have q3 : Qs 1 (1/8 : Rat) := qs_lit (by decide +kernel)
  have H1 := hide (show ((-1 : Int) : Rat) / ((8 : Int) : Rat) = -1/8 by decide +kernel)
  have H2 := hide (show ((-6 : Int) : Rat) / ((8 : Int) : Rat) = -3/4 by decide +kernel)
  have H3 := hide (show ((1 : Int) : Rat) / ((8 : Int) : Rat) = 1/8 by decide +kernel)
  have HP := hide (show pparse [48, 46, 49, 50, 53] = (1/8, 0, 0) by decide +kernel)
  have HF := hide (show ffix (-1/8) 2 = [45, 48, 46, 49, 51] by decide +kernel)
  have HT := hide (show txt (-3/4) = [45, 51, 47, 52] by decide +kernel)
  have e1 : ((bs [45, 51, 47, 52]).toList == [45, 51, 47, 52]) = true := by rw [bs_toList]; rfl
  have e2 : ((bs [45, 48, 46, 49, 51]).toList == [45, 48, 46, 49, 51]) = true := by rw [bs_toList]; rfl
  go_enter Tryz.func6, Tryz.ntmps6
  go_wp2_with fail
  refine (parse_at [48, 46, 49, 50, 53] (1/8) 0 0 0 0 _ (by decide) HP.out rfl rfl).mono ?_
  rintro e w1 ⟨s1, A1, n1, c1, B1, m1, d1, rfl, x, b1⟩
  have F1 := b1
  have x_2 := x.alloc (EQ s1 A1 n1 c1 B1 m1 d1)
  have bx_2 : Sq ((w1).alloc (EQ s1 A1 n1 c1 B1 m1 d1)) (w1.heap.size) (.bool s1) (.slice A1 n1 c1) (.slice B1 m1 d1) := by have h_ := Sq.new (w1) (.bool s1) (.slice A1 n1 c1) (.slice B1 m1 d1); exact h_
  have F2 := F1.alloc F1.size (EQ s1 A1 n1 c1 B1 m1 d1)
  have bx_u2 := bx_2.cell0
  have bx_v2 := bx_2.cell1
  have bx_w2 := bx_2.cell2
  go_wp2_with fail
  refine (lfrac4 (-1) 8 (-1/8) _ H1.out (by decide) (by decide) (by decide)).mono ?_
  rintro e w3 ⟨s3, A3, n3, c3, B3, m3, d3, rfl, f1, b3⟩
  have x_3 := x_2.below b3
  have bx_3 := bx_2.below b3 bx_2.lt
  have F3 := below_then F2 (Nat.le_refl _) b3
  have bx_u3 := bx_3.cell0
  have bx_v3 := bx_3.cell1
  have bx_w3 := bx_3.cell2
  go_wp2_with fail
  refine (fixed_at _ _ _ _ _ _ _ (-1/8) 1 2 2 _ _ rfl HF.out f1 q1 (by decide) (by decide) (by decide)).mono ?_
  rintro e w4 ⟨rfl, b4⟩
  have x_4 := x_3.below b4
  have f1_4 := f1.below b4
  have bx_4 := bx_3.below b4 bx_3.lt
  have F4 := below_then F3 (Nat.le_refl _) b4
  have bx_u4 := bx_4.cell0
  have bx_v4 := bx_4.cell1
  have bx_w4 := bx_4.cell2
  have k16 : 1 ≤ 16384 := by omega
  have l31 := q3.1
  have l32 := q3.2
  go_wp2_with fail
  have x_5 := x_4.drew
  have bx_5 := bx_4.drew
  have F5 := F4.drew
  go_region_held3 (fun w' => w'.cell? ⟨w1.heap.size, 0, none⟩ = some (.bool s1) ∧ w'.cell? ⟨w1.heap.size, 1, none⟩ = some (.slice A1 n1 c1) ∧ w'.cell? ⟨w1.heap.size, 2, none⟩ = some (.slice B1 m1 d1))
    (first
      | with_reducible exact ⟨bx_9.cell0, bx_9.cell1, bx_9.cell2⟩
      | with_reducible exact ⟨bx_8.cell0, bx_8.cell1, bx_8.cell2⟩
      | with_reducible exact ⟨bx_7.cell0, bx_7.cell1, bx_7.cell2⟩
      | with_reducible exact ⟨bx_6.cell0, bx_6.cell1, bx_6.cell2⟩
      | with_reducible exact ⟨bx_5.cell0, bx_5.cell1, bx_5.cell2⟩
      | fail)
    (first
      | (go_at_call 18; (with_reducible refine (lfrac4 (-6) 8 (-3/4) _ H2.out (by decide) (by decide) (by decide)).mono ?_); rintro e w6 ⟨s6, A6, n6, c6, B6, m6, d6, rfl, f2, b6⟩; have x_6 := x_5.below b6; have bx_6 := bx_5.below b6 bx_5.lt; have F6 := below_then F5 (Nat.le_refl _) b6)
      | (go_at_call 19; (with_reducible refine (text_at _ _ _ _ _ _ _ (-3/4) 1 _ _ HT.out f2 q2 (by decide) (by decide)).mono ?_); rintro e w7 ⟨rfl, b7⟩; have x_7 := x_6.below b7; have f2_7 := f2.below b7; have bx_7 := bx_6.below b7 bx_6.lt; have F7 := below_then F6 (Nat.le_refl _) b7)
      | (go_at_call 18; (with_reducible refine (lfrac4 1 8 (1/8) _ H3.out (by decide) (by decide) (by decide)).mono ?_); rintro e w8 ⟨s8, A8, n8, c8, B8, m8, d8, rfl, f3, b8⟩; have x_8 := x_7.below b8; have f2_8 := f2_7.below b8; have bx_8 := bx_7.below b8 bx_7.lt; have F8 := below_then F7 (Nat.le_refl _) b8)
      | (go_at_call 17; (with_reducible refine (same_q _ _ _ _ _ _ _ _ _ _ _ _ _ _ (1/8) _ x_8 f3 (Nat.le_trans (x_8.ln l31) k16) (Nat.le_trans (x_8.ld l32) k16)).mono ?_); rintro e w9 ⟨rfl, b9⟩; have x_9 := x_8.below b9; have f2_9 := f2_8.below b9; have f3_9 := f3.below b9; have bx_9 := bx_8.below b9 bx_8.lt; have F9 := below_then F8 (Nat.le_refl _) b9)
      | fail)
  have bx_u9 := bx_9.cell0
  have bx_v9 := bx_9.cell1
  have bx_w9 := bx_9.cell2
  all_goals (go_wp2; go_ret; exact ⟨rfl, F9⟩)
end Go.Proofs.YtjpchbcenbjibaaGreatDoor
