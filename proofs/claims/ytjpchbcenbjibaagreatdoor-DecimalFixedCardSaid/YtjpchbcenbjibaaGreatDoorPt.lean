/-
  The program's Text.
-/
import Derived.Test.YtjpchbcenbjibaaGreatDoorPa
import Derived.Test.YtjpchbcenbjibaaGreatDoorQ3
namespace Go.Proofs.YtjpchbcenbjibaaGreatDoor
open Go.RowKit
set_option linter.unusedVariables false
set_option linter.unusedSimpArgs false

def sgl (b : Bool) : List UInt8 := if b then [45] else []
theorem sign_calls (b : Bool) (w : World) : Calls Tryz.prog 22 #[.bool b] w fun e w' => e = .returned (.string (bs (sgl b))) ∧ w = w' := by
  cases b
  · go_enter Tryz.func22, Tryz.ntmps22
    go_wp2
    go_ret
    exact ⟨rfl, rfl⟩
  · go_enter Tryz.func22, Tryz.ntmps22
    go_wp2
    go_ret
    exact ⟨rfl, rfl⟩
theorem sgl_len (b : Bool) : (sgl b).length ≤ 1 := by cases b <;> simp [sgl]
theorem pads_len (k : Nat) (l : List UInt8) : (pads k l).length ≤ k + l.length := by unfold pads; rw [List.length_append, List.length_replicate]; omega
theorem pads_dt {X K k : Nat} (h : X < pw K) (hK : K ≤ 16384) (hk : k ≤ 5000) : (pads k (dt X)).length ≤ 1000000 := by
  have h1 := pads_len k (dt X)
  have h2 : (dt X).length ≤ 10 * K := dt_len (Nat.lt_of_lt_of_le h (pwT K))
  omega
set_option maxHeartbeats 1000000 in
theorem text_q (s : Bool) (A : Option Addr) (n c : Nat) (B : Option Addr) (m d : Nat) (q : Rat) (K : Nat) (w : World) (h : Cq w s A n c B m d q) (hs : Qs K q) (hK : K ≤ 1000) (hK1 : 1 ≤ K) :
    Calls Tryz.prog 19 #[.agg #[.bool s, .slice A n c, .slice B m d]] w (Asks w (.string (bs (txt q)))) := by
  have hK2 : K ≤ 16384 := by omega
  have hn : n ≤ 16384 := by have := h.ln hs.1; omega
  have hm : m ≤ 16384 := by have := h.ld hs.2; omega
  have HS := hide hs
  have h_1 := h.alloc (EQ s A n c B m d)
  have bx_1 := Sq.new (w) (.bool s) (.slice A n c) (.slice B m d)
  have F1 := (Below.refl w.heap.size w).alloc (Nat.le_refl _) (EQ s A n c B m d)
  clear hs
  go_enter Tryz.func19, Tryz.ntmps19
  go_wp2_with fail
  refine (canon_q _ _ _ _ _ _ _ q _ h_1.iq hn hm).mono ?_
  rintro e w2 ⟨s2, A2, n2, c2, B2, m2, d2, rfl, k2, b2⟩
  have bx_2 := bx_1.below b2 bx_1.lt
  have F2 := below_then F1 (Nat.le_refl _) b2
  have fz0 := bx_2.frozen 0
  have fz1 := bx_2.frozen 1
  have fz2 := bx_2.frozen 2
  have bu0 := bx_2.cell0
  have bu1 := bx_2.cell1
  have bu2 := bx_2.cell2
  have gl : w.heap.size ≤ w.heap.size := Nat.le_refl _
  have bx_3 := bx_2.stor (u0 := .bool s2) (u1 := .slice A2 n2 c2) (u2 := .slice B2 m2 d2)
  have k3 := k2.storQ bx_2 (.bool s2) (.slice A2 n2 c2) (.slice B2 m2 d2)
  have F3 := below_storQ (u0 := .bool s2) (u1 := .slice A2 n2 c2) (u2 := .slice B2 m2 d2) F2 gl
  obtain ⟨hx, hy, he⟩ := k3
  obtain ⟨X, hX⟩ : ∃ X, q.num.natAbs = X := ⟨_, rfl⟩
  have hx1 : Ny _ A2 n2 c2 K X := hX ▸ hx.ny HS.out.1
  have hm2 : (m2 = 0) = (q.den = 1) := by
    have hl := hy.len
    unfold qd at hl
    split at hl
    · rename_i h1; simp only [List.length_nil] at hl; simp [h1, ← hl]
    · rename_i h1
      rw [eq_iff_iff]
      constructor
      · intro h0
        have hd := val_dg q.den
        rw [List.length_eq_zero_iff.1 (hl.trans h0)] at hd
        exact absurd hd.symm q.den_nz
      · intro h0; exact absurd h0 h1
  have ht : txt q = sgl s2 ++ (pads 1 (dt X) ++ if q.den = 1 then [] else 47 :: pads 1 (dt q.den)) := by
    rw [txt, dtx_pads, dtx_pads, hX, he]
    unfold sgl
    simp
  have hxd := hx1.drew
  have F4 := F3.drew
  have HM := hide hm2
  have HT := hide ht
  have p1 := pads_dt (k := 1) hx1.lt hK2 (by omega)
  have p0 := sgl_len s2
  have zz1 : ¬ (9223372036854775807 < (bs (sgl s2)).size + (bs (pads 1 (dt X))).size) := by rw [bs_size, bs_size]; omega
  by_cases h0 : m2 = 0
  · subst h0
    have hd1 : q.den = 1 := by rw [← HM.out]
    have HT2 := hide (show txt q = sgl s2 ++ pads 1 (dt X) by rw [HT.out, if_pos hd1, List.append_nil])
    clear hx hx1 hy he hX hm2 ht hd1 h h_1 k2
    go_wp2_with fail
    have bx_4 := bx_3.drew
    go_region_held3 (fun w' => w'.cell? ⟨w.heap.size, 0, none⟩ = some (.bool s2) ∧ w'.cell? ⟨w.heap.size, 1, none⟩ = some (.slice A2 n2 c2) ∧ w'.cell? ⟨w.heap.size, 2, none⟩ = some (.slice B2 0 d2))
      (first
        | with_reducible exact ⟨bx_5.cell0, bx_5.cell1, bx_5.cell2⟩
        | with_reducible exact ⟨bx_4.cell0, bx_4.cell1, bx_4.cell2⟩
        | fail)
      (first
        | (go_at_call 22; (with_reducible refine (sign_calls s2 _).mono ?_); rintro e w' ⟨rfl, rfl⟩)
        | (go_at_call 24; (with_reducible refine (digsOf_calls A2 n2 c2 K X 1 1 _ rfl hxd hK2 (by omega) (by omega)).mono ?_); rintro e w5 ⟨rfl, b5⟩; have bx_5 := bx_4.below b5 bx_4.lt; have F5 := below_then F4 (Nat.le_refl _) b5)
        | fail)
    all_goals
      have e0 := bx_5.cell0
      have e1 := bx_5.cell1
      have e2 := bx_5.cell2
    all_goals go_wp2
    all_goals go_ret
    all_goals exact ⟨by rw [HT2.out, ← bs_append]; rfl, F5⟩
  · have hd1 : q.den ≠ 1 := fun e => h0 (by rw [HM.out]; exact e)
    rw [qd, if_neg hd1] at hy
    have hy1 := Rd.ny hy HS.out.2
    have HT2 := hide (show txt q = sgl s2 ++ pads 1 (dt X) ++ [47] ++ pads 1 (dt q.den) by rw [HT.out, if_neg hd1]; simp)
    obtain ⟨Y, hY⟩ : ∃ Y, q.den = Y := ⟨_, rfl⟩
    rw [hY] at hy1 HT2
    have p2 := pads_dt (k := 1) hy1.lt hK2 (by omega)
    have zz2 : ¬ (9223372036854775807 < (bs (sgl s2)).size + (bs (pads 1 (dt X))).size + 1) := by rw [bs_size, bs_size]; omega
    have zz3 : ¬ (9223372036854775807 < (bs (sgl s2)).size + (bs (pads 1 (dt X))).size + 1 + (bs (pads 1 (dt Y))).size) := by rw [bs_size, bs_size, bs_size]; omega
    have m1 : ((m2 : Int) == 0) = false := by simp; omega
    have hyd := hy1.drew
    clear hx hx1 hy hy1 he hX hY hm2 ht hd1 h h_1 k2
    go_wp2_with fail
    have bx_4 := bx_3.drew
    go_region_held3 (fun w' => w'.cell? ⟨w.heap.size, 0, none⟩ = some (.bool s2) ∧ w'.cell? ⟨w.heap.size, 1, none⟩ = some (.slice A2 n2 c2) ∧ w'.cell? ⟨w.heap.size, 2, none⟩ = some (.slice B2 m2 d2))
      (first
        | with_reducible exact ⟨bx_5.cell0, bx_5.cell1, bx_5.cell2⟩
        | with_reducible exact ⟨bx_4.cell0, bx_4.cell1, bx_4.cell2⟩
        | fail)
      (first
        | (go_at_call 22; (with_reducible refine (sign_calls s2 _).mono ?_); rintro e w' ⟨rfl, rfl⟩)
        | (go_at_call 24; (with_reducible refine (digsOf_calls A2 n2 c2 K X 1 1 _ rfl hxd hK2 (by omega) (by omega)).mono ?_); rintro e w5 ⟨rfl, b5⟩; have bx_5 := bx_4.below b5 bx_4.lt; have hy_5 := hyd.below b5; have F5 := below_then F4 (Nat.le_refl _) b5)
        | fail)
    all_goals
      have e0 := bx_5.cell0
      have e1 := bx_5.cell1
      have e2 := bx_5.cell2
    all_goals go_wp2_with fail
    all_goals
      refine (digsOf_calls B2 m2 d2 K Y 1 1 _ rfl hy_5 hK2 (by omega) (by omega)).mono ?_
      rintro e w6 ⟨rfl, b6⟩
      go_wp2
      go_ret
      exact ⟨by rw [HT2.out, ← bs_append, ← bs_append, ← bs_append]; rfl, below_then F5 (Nat.le_refl _) b6⟩
end Go.Proofs.YtjpchbcenbjibaaGreatDoor
