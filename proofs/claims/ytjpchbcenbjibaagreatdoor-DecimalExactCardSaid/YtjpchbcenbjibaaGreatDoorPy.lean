/-
  The program's Parse: number.
-/
import Derived.Test.YtjpchbcenbjibaaGreatDoorPn
import Derived.Test.YtjpchbcenbjibaaGreatDoorPd
import Derived.Test.YtjpchbcenbjibaaGreatDoorQ3
import Derived.Test.YtjpchbcenbjibaaGreatDoorD2
namespace Go.Proofs.YtjpchbcenbjibaaGreatDoor
open Go.RowKit
set_option linter.unusedVariables false
set_option linter.unusedSimpArgs false

theorem below_row {w w' : World} (h : Below w.heap.size w w') (row : Option Nat) : w.grownBy w' row := ⟨h.os, h.tape, h.output, h.size, fun k hk _ => h.block k hk⟩
theorem grown_set3 {a w : World} {row : Option Nat} (h : a.grownBy w row) {b : Nat} (hb : a.heap.size ≤ b) (u0 u1 u2 : Value) : a.grownBy (((w.setCell ⟨b, 0, none⟩ u0).setCell ⟨b, 1, none⟩ u1).setCell ⟨b, 2, none⟩ u2) row := by
  have st : ∀ (W : World) (i : Nat) (v : Value), a.grownBy W row → a.grownBy (W.setCell ⟨b, i, none⟩ v) row := fun W i v h => ⟨h.os, h.tape, h.output, Nat.le_trans h.size (by simp [World.setCell]), fun j hj hr => (Below.heap_setCell W ⟨b, i, none⟩ v j (by show j ≠ b; omega)).trans (h.block j hj hr)⟩
  exact st _ _ _ (st _ _ _ (st _ _ _ h))
theorem Sq.grownZ {w w' : World} {b g : Nat} {v0 v1 v2 : Value} (h : Sq w b v0 v1 v2) (hg : w.grownBy w' (some g)) (hne : b ≠ g) : Sq w' b v0 v1 v2 := (hg.block b h.lt (by intro e; exact hne (Option.some.inj e))).trans h
theorem Rd.awayZ {w : World} {A : Option Addr} {n c g : Nat} {xs : List Nat} {l : List UInt8} {s : PS} (h : Rd w A n c xs) (hp : Pz w g l s) : Away A n g := fun hn ad had hg => by
  obtain ⟨b, off, hA, hb, hc⟩ := h.at_ hn
  rw [hA] at had
  injection had with had
  subst had
  have e : b = g := hg
  subst e
  have h0 := hc 0 hn
  have h1 := cell_of_row w b (off + 0) _ 57 (0, 0) hp
  rw [h1] at h0
  rcases off with _ | _ | _ | _ | _ | off <;> simp at h0
theorem Ny.grownZ {w w' : World} {A : Option Addr} {n c k X g : Nat} {l : List UInt8} {s : PS} (h : Ny w A n c k X) (hp : Pz w g l s) (hg : w.grownBy w' (some g)) : Ny w' A n c k X := ⟨h.1, h.2.grown hg (h.2.awayZ hp)⟩
theorem Cq.grownZ {w w' : World} {s0 : Bool} {A : Option Addr} {n c : Nat} {B : Option Addr} {m d g : Nat} {q : Rat} {l : List UInt8} {s : PS} (h : Cq w s0 A n c B m d q) (hp : Pz w g l s) (hg : w.grownBy w' (some g)) : Cq w' s0 A n c B m d q :=
  ⟨h.1.grown hg (h.1.awayZ hp), h.2.1.grown hg (h.2.1.awayZ hp), h.2.2⟩
def PS.hop (l : List UInt8) (s : PS) (b : UInt8) : PS := if l[s.i]? = some b then s.skip else s
theorem hop_calls (g : Nat) (l : List UInt8) (s : PS) (b : UInt8) (B : Int) (r : Bool) (w : World) (hB : B = (b.toNat : Int)) (hr : decide (l[s.i]? = some b) = r) (h : Pz w g l s) (hl : l.length ≤ 100000) (hi : s.i ≤ l.length) :
    Calls Tryz.prog 62 #[.pointer (some ⟨g, 0, none⟩), .int .u8 B] w (GPz w g l (s.hop l b) (.bool r)) := by
  subst hr
  unfold PS.hop
  by_cases hb : l[s.i]? = some b
  · rw [if_pos hb, decide_eq_true hb]
    exact skip_yes g l s b B w hB h hl hb
  · rw [if_neg hb, decide_eq_false hb]
    exact skip_no g l s b B w hB h hl hi hb
theorem hop_st1 (l : List UInt8) : PS.hop l ⟨0, 0, 0, 0⟩ 45 = st1 l := rfl
theorem st1_le (l : List UInt8) : (st1 l).i ≤ l.length := by
  unfold st1
  split
  · rename_i h; exact (List.getElem?_eq_some_iff.1 h).1
  · exact Nat.zero_le _
theorem st2_le (l : List UInt8) : (st2 l).i ≤ l.length := by unfold st2; rw [PS.dig_i]; exact PS.len_le l _ (st1_le l)
theorem st2_c (l : List UInt8) : (st2 l).c ≤ 4000 := by unfold st2; rw [PS.dig_c, st1_c, Nat.zero_add]; exact Nat.le_trans (PS.len_room l _) (Nat.sub_le _ _)
theorem txt1_len (l : List UInt8) : ((st1 l).txt l).length ≤ 4000 := by rw [PS.txt_len]; exact Nat.le_trans (PS.len_room l _) (Nat.sub_le _ _)
theorem txt2_len (l : List UInt8) : ((st1 l).txt l).length + ((st2 l).skip.txt l).length ≤ 4000 := by
  rw [PS.txt_len, PS.txt_len]
  have h1 := PS.len_room l (st2 l).skip
  have h2 : (st2 l).skip.c = (st1 l).len l := by show (st2 l).c = _; unfold st2; rw [PS.dig_c, st1_c, Nat.zero_add]
  have h3 := PS.len_room l (st1 l)
  omega
theorem ivd_ne {D : Nat} (h : D ≠ 0) : (iv false (dg D) : Int) ≠ 0 := fun e => h (by
  have h2 : ((D : Nat) : Int) = 0 := by rw [← val_dg D]; exact e
  omega)
/-- What number hands back. -/
def GNum (w : World) (g : Nat) (l : List UInt8) (e : Ending) (w' : World) : Prop := ∃ s A n c B m d S x, e = .returned (.agg #[.bool s, .slice A n c, .slice B m d]) ∧ Cq w' s A n c B m d x ∧ Pz w' g l S ∧ S.out x = pparse l ∧ w.grownBy w' (some g)
theorem num_end {w w2 : World} {g r : Nat} {l : List UInt8} {S : PS} {x : Rat} {s s0 : Bool} {A A0 B B0 : Option Addr} {n c n0 c0 m d m0 d0 : Nat} (hG : w.grownBy w2 (some g)) (hr : w.heap.size ≤ r) (hrg : g ≠ r) (hs : Sq w2 r (.bool s0) (.slice A0 n0 c0) (.slice B0 m0 d0)) (hc : Cq w2 s A n c B m d x) (hp : Pz w2 g l S) (ho : S.out x = pparse l) :
    GNum w g l (.returned (.agg #[.bool s, .slice A n c, .slice B m d])) (((w2.setCell ⟨r, 0, none⟩ (.bool s)).setCell ⟨r, 1, none⟩ (.slice A n c)).setCell ⟨r, 2, none⟩ (.slice B m d)) :=
  ⟨s, A, n, c, B, m, d, S, x, rfl, hc.storQ hs _ _ _, (Below.heap_setCell _ ⟨r, 2, none⟩ _ g hrg).trans ((Below.heap_setCell _ ⟨r, 1, none⟩ _ g hrg).trans ((Below.heap_setCell _ ⟨r, 0, none⟩ _ g hrg).trans hp)), ho, grown_set3 hG hr _ _ _⟩
set_option maxHeartbeats 1000000 in
theorem number_A0 (g : Nat) (l : List UInt8) (w : World) (h : Pz w g l ⟨0, 0, 0, 0⟩) (hl : l.length ≤ 100000) (hc : l[(st2 l).i]? = some 47) (h0 : dval ((st2 l).skip.txt l) = 0) :
    Calls Tryz.prog 31 #[.pointer (some ⟨g, 0, none⟩)] w (GNum w g l) := by
  have hrg : w.heap.size ≠ g := Nat.ne_of_gt h.lt
  have pz_1 := h.alloc EQ0
  have br_1 := Sq.new w (.bool false) (.slice none 0 0) (.slice none 0 0)
  have G_1 : w.grownBy (w.alloc EQ0) (some g) := World.grownBy_alloc w EQ0 (some g)
  have t1 := txt1_len l
  have i1 := st1_le l
  have c1 : (st1 l).c ≤ 4000 := by rw [st1_c]; omega
  have i2 := st2_le l
  have c2 := st2_c l
  have HO := hide (run_sep (l := l) hc (.inl rfl))
  have i3 : (st2 l).skip.i ≤ l.length := (List.getElem?_eq_some_iff.1 hc).1
  have c3 : (st2 l).skip.c ≤ 4000 := c2
  have t2 := txt2_len l
  have d47 : decide (l[(st2 l).i]? = some 47) = true := decide_eq_true hc
  have e47 : (st2 l).hop l 47 = (st2 l).skip := if_pos hc
  have H0 := hide h0
  clear hc h0
  obtain ⟨T1, hT1⟩ : ∃ T1, (st1 l).txt l = T1 := ⟨_, rfl⟩
  have T1d : ∀ c ∈ T1, isd c = true := hT1 ▸ PS.txt_isd l (st1 l)
  obtain ⟨T2, hT2⟩ : ∃ T2, (st2 l).skip.txt l = T2 := ⟨_, rfl⟩
  have T2d : ∀ c ∈ T2, isd c = true := hT2 ▸ PS.txt_isd l (st2 l).skip
  rw [hT1] at t1 t2
  rw [hT2] at t2
  have HT1 := hide hT1
  have HT2 := hide hT2
  have dg1 : Hid (bs ((st1 l).txt l) = bs T1) := hide (by rw [hT1])
  have dg2 : Hid (bs ((st2 l).skip.txt l) = bs T2) := hide (by rw [hT2])
  clear hT1 hT2
  go_enter Tryz.func31, Tryz.ntmps31
  have z0_1 := pz_1.cell0
  have z1_1 := pz_1.cell1
  have z2_1 := pz_1.cell2
  have z3_1 := pz_1.cell3
  have z4_1 := pz_1.cell4
  have r0_1 := br_1.cell0
  have r1_1 := br_1.cell1
  have r2_1 := br_1.cell2
  go_wp2_with fail
  refine (hop_calls g l ⟨0, 0, 0, 0⟩ 45 45 (sgn1 l) _ rfl rfl pz_1 hl (Nat.zero_le _)).mono ?_
  rintro e w2 ⟨rfl, pz_2, gr_2⟩
  have br_2 := br_1.grownZ gr_2 hrg
  have G_2 := Go.Lib.grownBy_trans G_1 gr_2
  have z0_2 := pz_2.cell0
  have z1_2 := pz_2.cell1
  have z2_2 := pz_2.cell2
  have z3_2 := pz_2.cell3
  have z4_2 := pz_2.cell4
  have r0_2 := br_2.cell0
  have r1_2 := br_2.cell1
  have r2_2 := br_2.cell2
  rw [hop_st1] at pz_2
  have z0_2 := pz_2.cell0
  have z1_2 := pz_2.cell1
  have z2_2 := pz_2.cell2
  have z3_2 := pz_2.cell3
  have z4_2 := pz_2.cell4
  go_wp2_with fail
  refine ((pdig_calls g l (st1 l) _ pz_2 hl i1 c1).mono (R' := GPz _ g l (st2 l) (.string (bs T1))) (fun _ _ hh => by rw [← dg1.out]; exact hh)).mono ?_
  rintro e w3 ⟨rfl, pz_3, gr_3⟩
  have br_3 := br_2.grownZ gr_3 hrg
  have G_3 := Go.Lib.grownBy_trans G_2 gr_3
  have z0_3 := pz_3.cell0
  have z1_3 := pz_3.cell1
  have z2_3 := pz_3.cell2
  have z3_3 := pz_3.cell3
  have z4_3 := pz_3.cell4
  have r0_3 := br_3.cell0
  have r1_3 := br_3.cell1
  have r2_3 := br_3.cell2
  go_wp2_with fail
  refine (one_n _ 1 (Nat.le_refl _)).mono ?_
  rintro e w4 ⟨Ad, nd, cd, rfl, den_4, b_4⟩
  have pz_4 := pz_3.below b_4 pz_3.lt
  have br_4 := br_3.below b_4 br_3.lt
  have G_4 := Go.Lib.grownBy_trans G_3 (below_row b_4 _)
  have z0_4 := pz_4.cell0
  have z1_4 := pz_4.cell1
  have z2_4 := pz_4.cell2
  have z3_4 := pz_4.cell3
  have z4_4 := pz_4.cell4
  have r0_4 := br_4.cell0
  have r1_4 := br_4.cell1
  have r2_4 := br_4.cell2
  go_wp2_with fail
  refine (hop_calls g l (st2 l) 47 47 true _ rfl d47 pz_4 hl i2).mono ?_
  rintro e w5 ⟨rfl, pz_5, gr_5⟩
  have br_5 := br_4.grownZ gr_5 hrg
  have G_5 := Go.Lib.grownBy_trans G_4 gr_5
  have den_5 := den_4.grownZ pz_4 gr_5
  have z0_5 := pz_5.cell0
  have z1_5 := pz_5.cell1
  have z2_5 := pz_5.cell2
  have z3_5 := pz_5.cell3
  have z4_5 := pz_5.cell4
  have r0_5 := br_5.cell0
  have r1_5 := br_5.cell1
  have r2_5 := br_5.cell2
  rw [e47] at pz_5
  go_wp2_with fail
  refine ((pdig_calls g l (st2 l).skip _ pz_5 hl i3 c3).mono (R' := GPz _ g l ((st2 l).skip.dig l) (.string (bs T2))) (fun _ _ hh => by rw [← dg2.out]; exact hh)).mono ?_
  rintro e w6 ⟨rfl, pz_6, gr_6⟩
  have br_6 := br_5.grownZ gr_6 hrg
  have G_6 := Go.Lib.grownBy_trans G_5 gr_6
  have z0_6 := pz_6.cell0
  have z1_6 := pz_6.cell1
  have z2_6 := pz_6.cell2
  have z3_6 := pz_6.cell3
  have z4_6 := pz_6.cell4
  have r0_6 := br_6.cell0
  have r1_6 := br_6.cell1
  have r2_6 := br_6.cell2
  go_wp2_with fail
  refine (numberOf_calls T2 _ T2d (by omega)).mono ?_
  rintro e w7 ⟨Ad2, nd2, cd2, rfl, den_7, b_7⟩
  have pz_7 := pz_6.below b_7 pz_6.lt
  have br_7 := br_6.below b_7 br_6.lt
  have G_7 := Go.Lib.grownBy_trans G_6 (below_row b_7 _)
  have z0_7 := pz_7.cell0
  have z1_7 := pz_7.cell1
  have z2_7 := pz_7.cell2
  have z3_7 := pz_7.cell3
  have z4_7 := pz_7.cell4
  have r0_7 := br_7.cell0
  have r1_7 := br_7.cell1
  have r2_7 := br_7.cell2
  go_wp2_with fail
  refine (fin_calls g l ((st2 l).skip.dig l) _ pz_7).mono ?_
  rintro e w8 ⟨rfl, pz_8, gr_8⟩
  have br_8 := br_7.grownZ gr_8 hrg
  have G_8 := Go.Lib.grownBy_trans G_7 gr_8
  have den_8 := den_7.grownZ pz_7 gr_8
  have z0_8 := pz_8.cell0
  have z1_8 := pz_8.cell1
  have z2_8 := pz_8.cell2
  have z3_8 := pz_8.cell3
  have z4_8 := pz_8.cell4
  have r0_8 := br_8.cell0
  have r1_8 := br_8.cell1
  have r2_8 := br_8.cell2
  go_wp2_with fail
  refine (numberOf_calls T1 _ T1d (by first | omega | (rw [List.length_append]; omega))).mono ?_
  rintro e w9 ⟨An, nn, cn, rfl, num_9, b_9⟩
  have pz_9 := pz_8.below b_9 pz_8.lt
  have br_9 := br_8.below b_9 br_8.lt
  have G_9 := Go.Lib.grownBy_trans G_8 (below_row b_9 _)
  have den_9 := den_8.below b_9
  have z0_9 := pz_9.cell0
  have z1_9 := pz_9.cell1
  have z2_9 := pz_9.cell2
  have z3_9 := pz_9.cell3
  have z4_9 := pz_9.cell4
  have r0_9 := br_9.cell0
  have r1_9 := br_9.cell1
  have r2_9 := br_9.cell2
  have hd0 : (iv false (dg (dval T2)) : Int) = 0 := by rw [← HT2.out, H0.out]; rfl
  go_wp2_with fail
  refine (make_q0 (sgn1 l) false _ _ _ _ _ _ (iv false (dg (dval T2))) _ hd0 (den_9.iz false) (by have := den_9.1; omega)).mono ?_
  rintro e w10 ⟨sx, Ax, nx, cx, Bx, mx, dx, rfl, x_10, b_10⟩
  have pz_10 := pz_9.below b_10 pz_9.lt
  have br_10 := br_9.below b_10 br_9.lt
  have G_10 := Go.Lib.grownBy_trans G_9 (below_row b_10 _)
  have den_10 := den_9.below b_10
  have num_10 := num_9.below b_10
  have z0_10 := pz_10.cell0
  have z1_10 := pz_10.cell1
  have z2_10 := pz_10.cell2
  have z3_10 := pz_10.cell3
  have z4_10 := pz_10.cell4
  have r0_10 := br_10.cell0
  have r1_10 := br_10.cell1
  have r2_10 := br_10.cell2
  have pz_11 := pz_10.alloc (EQ sx Ax nx cx Bx mx dx)
  have br_11 := br_10.alloc (EQ sx Ax nx cx Bx mx dx)
  have G_11 := Go.Lib.grownBy_trans G_10 (World.grownBy_alloc w10 (EQ sx Ax nx cx Bx mx dx) (some g))
  have x_11 := x_10.alloc (EQ sx Ax nx cx Bx mx dx)
  have bx_11 := Sq.new w10 (.bool sx) (.slice Ax nx cx) (.slice Bx mx dx)
  have xg : w10.heap.size ≠ g := Nat.ne_of_gt pz_10.lt
  have z0_11 := pz_11.cell0
  have z1_11 := pz_11.cell1
  have z2_11 := pz_11.cell2
  have z3_11 := pz_11.cell3
  have z4_11 := pz_11.cell4
  have r0_11 := br_11.cell0
  have r1_11 := br_11.cell1
  have r2_11 := br_11.cell2
  have q0_11 := bx_11.cell0
  have q1_11 := bx_11.cell1
  have q2_11 := bx_11.cell2
  go_wp2_with fail
  refine (fail_calls g l (((st2 l).skip.dig l).fin l) ((st2 l).i + 1) 3 _ _ _ (by simp) rfl pz_11).mono ?_
  rintro e w12 ⟨rfl, pz_12, gr_12⟩
  have br_12 := br_11.grownZ gr_12 hrg
  have G_12 := Go.Lib.grownBy_trans G_11 gr_12
  have x_12 := x_11.grownZ pz_11 gr_12
  have bx_12 := bx_11.grownZ gr_12 xg
  have z0_12 := pz_12.cell0
  have z1_12 := pz_12.cell1
  have z2_12 := pz_12.cell2
  have z3_12 := pz_12.cell3
  have z4_12 := pz_12.cell4
  have r0_12 := br_12.cell0
  have r1_12 := br_12.cell1
  have r2_12 := br_12.cell2
  have q0_12 := bx_12.cell0
  have q1_12 := bx_12.cell1
  have q2_12 := bx_12.cell2
  have f0_12 := br_12.frozen 0
  have f1_12 := br_12.frozen 1
  have f2_12 := br_12.frozen 2
  have ho : (((st2 l).skip.dig l).fin l |>.fail ((st2 l).i + 1) 3).out (0 : Rat) = pparse l := by
    have := HO.out ((st2 l).i + 1) 0 0 rfl 0 (fun _ => H0.out.symm) (fun e => by cases e) (fun _ _ _ e => absurd rfl e) (fun e => by cases e)
    unfold PS.done at this
    rw [if_pos rfl] at this
    exact this
  go_wp2_with fail
  refine bodyPost_ret (v := .agg #[.bool sx, .slice Ax nx cx, .slice Bx mx dx]) (by simp [results, Tryz.results31, go_sem, (br_12.set0 (.bool sx)).cell0, ((br_12.set0 (.bool sx)).set1 (.slice Ax nx cx)).cell1, (((br_12.set0 (.bool sx)).set1 (.slice Ax nx cx)).set2 (.slice Bx mx dx)).cell2]) rfl (num_end G_12 (Nat.le_refl _) hrg.symm br_12 x_12 pz_12 ho)
set_option maxHeartbeats 1000000 in
theorem number_A1 (g : Nat) (l : List UInt8) (w : World) (h : Pz w g l ⟨0, 0, 0, 0⟩) (hl : l.length ≤ 100000) (hc : l[(st2 l).i]? = some 47) (h0 : dval ((st2 l).skip.txt l) ≠ 0) :
    Calls Tryz.prog 31 #[.pointer (some ⟨g, 0, none⟩)] w (GNum w g l) := by
  have hrg : w.heap.size ≠ g := Nat.ne_of_gt h.lt
  have pz_1 := h.alloc EQ0
  have br_1 := Sq.new w (.bool false) (.slice none 0 0) (.slice none 0 0)
  have G_1 : w.grownBy (w.alloc EQ0) (some g) := World.grownBy_alloc w EQ0 (some g)
  have t1 := txt1_len l
  have i1 := st1_le l
  have c1 : (st1 l).c ≤ 4000 := by rw [st1_c]; omega
  have i2 := st2_le l
  have c2 := st2_c l
  have HO := hide (run_sep (l := l) hc (.inl rfl))
  have i3 : (st2 l).skip.i ≤ l.length := (List.getElem?_eq_some_iff.1 hc).1
  have c3 : (st2 l).skip.c ≤ 4000 := c2
  have t2 := txt2_len l
  have d47 : decide (l[(st2 l).i]? = some 47) = true := decide_eq_true hc
  have e47 : (st2 l).hop l 47 = (st2 l).skip := if_pos hc
  have H0 := hide h0
  clear hc h0
  obtain ⟨T1, hT1⟩ : ∃ T1, (st1 l).txt l = T1 := ⟨_, rfl⟩
  have T1d : ∀ c ∈ T1, isd c = true := hT1 ▸ PS.txt_isd l (st1 l)
  obtain ⟨T2, hT2⟩ : ∃ T2, (st2 l).skip.txt l = T2 := ⟨_, rfl⟩
  have T2d : ∀ c ∈ T2, isd c = true := hT2 ▸ PS.txt_isd l (st2 l).skip
  rw [hT1] at t1 t2
  rw [hT2] at t2
  have HT1 := hide hT1
  have HT2 := hide hT2
  have dg1 : Hid (bs ((st1 l).txt l) = bs T1) := hide (by rw [hT1])
  have dg2 : Hid (bs ((st2 l).skip.txt l) = bs T2) := hide (by rw [hT2])
  clear hT1 hT2
  go_enter Tryz.func31, Tryz.ntmps31
  have z0_1 := pz_1.cell0
  have z1_1 := pz_1.cell1
  have z2_1 := pz_1.cell2
  have z3_1 := pz_1.cell3
  have z4_1 := pz_1.cell4
  have r0_1 := br_1.cell0
  have r1_1 := br_1.cell1
  have r2_1 := br_1.cell2
  go_wp2_with fail
  refine (hop_calls g l ⟨0, 0, 0, 0⟩ 45 45 (sgn1 l) _ rfl rfl pz_1 hl (Nat.zero_le _)).mono ?_
  rintro e w2 ⟨rfl, pz_2, gr_2⟩
  have br_2 := br_1.grownZ gr_2 hrg
  have G_2 := Go.Lib.grownBy_trans G_1 gr_2
  have z0_2 := pz_2.cell0
  have z1_2 := pz_2.cell1
  have z2_2 := pz_2.cell2
  have z3_2 := pz_2.cell3
  have z4_2 := pz_2.cell4
  have r0_2 := br_2.cell0
  have r1_2 := br_2.cell1
  have r2_2 := br_2.cell2
  rw [hop_st1] at pz_2
  have z0_2 := pz_2.cell0
  have z1_2 := pz_2.cell1
  have z2_2 := pz_2.cell2
  have z3_2 := pz_2.cell3
  have z4_2 := pz_2.cell4
  go_wp2_with fail
  refine ((pdig_calls g l (st1 l) _ pz_2 hl i1 c1).mono (R' := GPz _ g l (st2 l) (.string (bs T1))) (fun _ _ hh => by rw [← dg1.out]; exact hh)).mono ?_
  rintro e w3 ⟨rfl, pz_3, gr_3⟩
  have br_3 := br_2.grownZ gr_3 hrg
  have G_3 := Go.Lib.grownBy_trans G_2 gr_3
  have z0_3 := pz_3.cell0
  have z1_3 := pz_3.cell1
  have z2_3 := pz_3.cell2
  have z3_3 := pz_3.cell3
  have z4_3 := pz_3.cell4
  have r0_3 := br_3.cell0
  have r1_3 := br_3.cell1
  have r2_3 := br_3.cell2
  go_wp2_with fail
  refine (one_n _ 1 (Nat.le_refl _)).mono ?_
  rintro e w4 ⟨Ad, nd, cd, rfl, den_4, b_4⟩
  have pz_4 := pz_3.below b_4 pz_3.lt
  have br_4 := br_3.below b_4 br_3.lt
  have G_4 := Go.Lib.grownBy_trans G_3 (below_row b_4 _)
  have z0_4 := pz_4.cell0
  have z1_4 := pz_4.cell1
  have z2_4 := pz_4.cell2
  have z3_4 := pz_4.cell3
  have z4_4 := pz_4.cell4
  have r0_4 := br_4.cell0
  have r1_4 := br_4.cell1
  have r2_4 := br_4.cell2
  go_wp2_with fail
  refine (hop_calls g l (st2 l) 47 47 true _ rfl d47 pz_4 hl i2).mono ?_
  rintro e w5 ⟨rfl, pz_5, gr_5⟩
  have br_5 := br_4.grownZ gr_5 hrg
  have G_5 := Go.Lib.grownBy_trans G_4 gr_5
  have den_5 := den_4.grownZ pz_4 gr_5
  have z0_5 := pz_5.cell0
  have z1_5 := pz_5.cell1
  have z2_5 := pz_5.cell2
  have z3_5 := pz_5.cell3
  have z4_5 := pz_5.cell4
  have r0_5 := br_5.cell0
  have r1_5 := br_5.cell1
  have r2_5 := br_5.cell2
  rw [e47] at pz_5
  go_wp2_with fail
  refine ((pdig_calls g l (st2 l).skip _ pz_5 hl i3 c3).mono (R' := GPz _ g l ((st2 l).skip.dig l) (.string (bs T2))) (fun _ _ hh => by rw [← dg2.out]; exact hh)).mono ?_
  rintro e w6 ⟨rfl, pz_6, gr_6⟩
  have br_6 := br_5.grownZ gr_6 hrg
  have G_6 := Go.Lib.grownBy_trans G_5 gr_6
  have z0_6 := pz_6.cell0
  have z1_6 := pz_6.cell1
  have z2_6 := pz_6.cell2
  have z3_6 := pz_6.cell3
  have z4_6 := pz_6.cell4
  have r0_6 := br_6.cell0
  have r1_6 := br_6.cell1
  have r2_6 := br_6.cell2
  go_wp2_with fail
  refine (numberOf_calls T2 _ T2d (by omega)).mono ?_
  rintro e w7 ⟨Ad2, nd2, cd2, rfl, den_7, b_7⟩
  have pz_7 := pz_6.below b_7 pz_6.lt
  have br_7 := br_6.below b_7 br_6.lt
  have G_7 := Go.Lib.grownBy_trans G_6 (below_row b_7 _)
  have z0_7 := pz_7.cell0
  have z1_7 := pz_7.cell1
  have z2_7 := pz_7.cell2
  have z3_7 := pz_7.cell3
  have z4_7 := pz_7.cell4
  have r0_7 := br_7.cell0
  have r1_7 := br_7.cell1
  have r2_7 := br_7.cell2
  go_wp2_with fail
  refine (fin_calls g l ((st2 l).skip.dig l) _ pz_7).mono ?_
  rintro e w8 ⟨rfl, pz_8, gr_8⟩
  have br_8 := br_7.grownZ gr_8 hrg
  have G_8 := Go.Lib.grownBy_trans G_7 gr_8
  have den_8 := den_7.grownZ pz_7 gr_8
  have z0_8 := pz_8.cell0
  have z1_8 := pz_8.cell1
  have z2_8 := pz_8.cell2
  have z3_8 := pz_8.cell3
  have z4_8 := pz_8.cell4
  have r0_8 := br_8.cell0
  have r1_8 := br_8.cell1
  have r2_8 := br_8.cell2
  go_wp2_with fail
  refine (numberOf_calls T1 _ T1d (by first | omega | (rw [List.length_append]; omega))).mono ?_
  rintro e w9 ⟨An, nn, cn, rfl, num_9, b_9⟩
  have pz_9 := pz_8.below b_9 pz_8.lt
  have br_9 := br_8.below b_9 br_8.lt
  have G_9 := Go.Lib.grownBy_trans G_8 (below_row b_9 _)
  have den_9 := den_8.below b_9
  have z0_9 := pz_9.cell0
  have z1_9 := pz_9.cell1
  have z2_9 := pz_9.cell2
  have z3_9 := pz_9.cell3
  have z4_9 := pz_9.cell4
  have r0_9 := br_9.cell0
  have r1_9 := br_9.cell1
  have r2_9 := br_9.cell2
  have hd0 := ivd_ne (D := dval T2) (by rw [← HT2.out]; exact H0.out)
  go_wp2_with fail
  refine (make_q (sgn1 l) false _ _ _ _ _ _ (iv (sgn1 l) (dg (dval T1))) (iv false (dg (dval T2))) _ _ (make_value (sgn1 l) (dval T1) (dval T2)) hd0 (num_9.iz (sgn1 l)) (den_9.iz false) (by have := num_9.1; first | omega | (rw [List.length_append] at this; omega)) (by have := den_9.1; omega)).mono ?_
  rintro e w10 ⟨sx, Ax, nx, cx, Bx, mx, dx, rfl, x_10, b_10⟩
  have pz_10 := pz_9.below b_10 pz_9.lt
  have br_10 := br_9.below b_10 br_9.lt
  have G_10 := Go.Lib.grownBy_trans G_9 (below_row b_10 _)
  have den_10 := den_9.below b_10
  have num_10 := num_9.below b_10
  have z0_10 := pz_10.cell0
  have z1_10 := pz_10.cell1
  have z2_10 := pz_10.cell2
  have z3_10 := pz_10.cell3
  have z4_10 := pz_10.cell4
  have r0_10 := br_10.cell0
  have r1_10 := br_10.cell1
  have r2_10 := br_10.cell2
  have pz_11 := pz_10.alloc (EQ sx Ax nx cx Bx mx dx)
  have br_11 := br_10.alloc (EQ sx Ax nx cx Bx mx dx)
  have G_11 := Go.Lib.grownBy_trans G_10 (World.grownBy_alloc w10 (EQ sx Ax nx cx Bx mx dx) (some g))
  have x_11 := x_10.alloc (EQ sx Ax nx cx Bx mx dx)
  have bx_11 := Sq.new w10 (.bool sx) (.slice Ax nx cx) (.slice Bx mx dx)
  have xg : w10.heap.size ≠ g := Nat.ne_of_gt pz_10.lt
  have z0_11 := pz_11.cell0
  have z1_11 := pz_11.cell1
  have z2_11 := pz_11.cell2
  have z3_11 := pz_11.cell3
  have z4_11 := pz_11.cell4
  have r0_11 := br_11.cell0
  have r1_11 := br_11.cell1
  have r2_11 := br_11.cell2
  have q0_11 := bx_11.cell0
  have q1_11 := bx_11.cell1
  have q2_11 := bx_11.cell2
  have f0_11 := br_11.frozen 0
  have f1_11 := br_11.frozen 1
  have f2_11 := br_11.frozen 2
  have ho : (((st2 l).skip.dig l).fin l).out (sgnq (sgn1 l) ((dval T1 : Rat) / (dval T2 : Rat))) = pparse l := by
    have := HO.out ((st2 l).i + 1) (dval T2) 0 rfl (sgnq (sgn1 l) ((dval T1 : Rat) / (dval T2 : Rat))) (fun _ => by rw [HT2.out]) (fun e => by cases e) (fun _ _ _ _ => by rw [HT1.out, HT2.out]) (fun e => by cases e)
    unfold PS.done at this
    rw [if_neg (by rw [← HT2.out]; exact H0.out)] at this
    exact this
  go_wp2_with fail
  refine bodyPost_ret (v := .agg #[.bool sx, .slice Ax nx cx, .slice Bx mx dx]) (by simp [results, Tryz.results31, go_sem, (br_11.set0 (.bool sx)).cell0, ((br_11.set0 (.bool sx)).set1 (.slice Ax nx cx)).cell1, (((br_11.set0 (.bool sx)).set1 (.slice Ax nx cx)).set2 (.slice Bx mx dx)).cell2]) rfl (num_end G_11 (Nat.le_refl _) hrg.symm br_11 x_11 pz_11 ho)
set_option maxHeartbeats 1000000 in
theorem number_B (g : Nat) (l : List UInt8) (w : World) (h : Pz w g l ⟨0, 0, 0, 0⟩) (hl : l.length ≤ 100000) (h7 : l[(st2 l).i]? ≠ some 47) (hc : l[(st2 l).i]? = some 46) :
    Calls Tryz.prog 31 #[.pointer (some ⟨g, 0, none⟩)] w (GNum w g l) := by
  have hrg : w.heap.size ≠ g := Nat.ne_of_gt h.lt
  have pz_1 := h.alloc EQ0
  have br_1 := Sq.new w (.bool false) (.slice none 0 0) (.slice none 0 0)
  have G_1 : w.grownBy (w.alloc EQ0) (some g) := World.grownBy_alloc w EQ0 (some g)
  have t1 := txt1_len l
  have i1 := st1_le l
  have c1 : (st1 l).c ≤ 4000 := by rw [st1_c]; omega
  have i2 := st2_le l
  have c2 := st2_c l
  have HO := hide (run_sep (l := l) hc (.inr rfl))
  have i3 : (st2 l).skip.i ≤ l.length := (List.getElem?_eq_some_iff.1 hc).1
  have c3 : (st2 l).skip.c ≤ 4000 := c2
  have t2 := txt2_len l
  have d47 : decide (l[(st2 l).i]? = some 47) = false := decide_eq_false h7
  have d46 : decide (l[(st2 l).i]? = some 46) = true := decide_eq_true hc
  have e47 : (st2 l).hop l 47 = st2 l := if_neg h7
  have e46 : (st2 l).hop l 46 = (st2 l).skip := if_pos hc
  clear h7 hc
  obtain ⟨T1, hT1⟩ : ∃ T1, (st1 l).txt l = T1 := ⟨_, rfl⟩
  have T1d : ∀ c ∈ T1, isd c = true := hT1 ▸ PS.txt_isd l (st1 l)
  obtain ⟨T2, hT2⟩ : ∃ T2, (st2 l).skip.txt l = T2 := ⟨_, rfl⟩
  have T2d : ∀ c ∈ T2, isd c = true := hT2 ▸ PS.txt_isd l (st2 l).skip
  rw [hT1] at t1 t2
  rw [hT2] at t2
  have HT1 := hide hT1
  have HT2 := hide hT2
  have dg1 : Hid (bs ((st1 l).txt l) = bs T1) := hide (by rw [hT1])
  have dg2 : Hid (bs ((st2 l).skip.txt l) = bs T2) := hide (by rw [hT2])
  clear hT1 hT2
  go_enter Tryz.func31, Tryz.ntmps31
  have z0_1 := pz_1.cell0
  have z1_1 := pz_1.cell1
  have z2_1 := pz_1.cell2
  have z3_1 := pz_1.cell3
  have z4_1 := pz_1.cell4
  have r0_1 := br_1.cell0
  have r1_1 := br_1.cell1
  have r2_1 := br_1.cell2
  go_wp2_with fail
  refine (hop_calls g l ⟨0, 0, 0, 0⟩ 45 45 (sgn1 l) _ rfl rfl pz_1 hl (Nat.zero_le _)).mono ?_
  rintro e w2 ⟨rfl, pz_2, gr_2⟩
  have br_2 := br_1.grownZ gr_2 hrg
  have G_2 := Go.Lib.grownBy_trans G_1 gr_2
  have z0_2 := pz_2.cell0
  have z1_2 := pz_2.cell1
  have z2_2 := pz_2.cell2
  have z3_2 := pz_2.cell3
  have z4_2 := pz_2.cell4
  have r0_2 := br_2.cell0
  have r1_2 := br_2.cell1
  have r2_2 := br_2.cell2
  rw [hop_st1] at pz_2
  have z0_2 := pz_2.cell0
  have z1_2 := pz_2.cell1
  have z2_2 := pz_2.cell2
  have z3_2 := pz_2.cell3
  have z4_2 := pz_2.cell4
  go_wp2_with fail
  refine ((pdig_calls g l (st1 l) _ pz_2 hl i1 c1).mono (R' := GPz _ g l (st2 l) (.string (bs T1))) (fun _ _ hh => by rw [← dg1.out]; exact hh)).mono ?_
  rintro e w3 ⟨rfl, pz_3, gr_3⟩
  have br_3 := br_2.grownZ gr_3 hrg
  have G_3 := Go.Lib.grownBy_trans G_2 gr_3
  have z0_3 := pz_3.cell0
  have z1_3 := pz_3.cell1
  have z2_3 := pz_3.cell2
  have z3_3 := pz_3.cell3
  have z4_3 := pz_3.cell4
  have r0_3 := br_3.cell0
  have r1_3 := br_3.cell1
  have r2_3 := br_3.cell2
  go_wp2_with fail
  refine (one_n _ 1 (Nat.le_refl _)).mono ?_
  rintro e w4 ⟨Ad, nd, cd, rfl, den_4, b_4⟩
  have pz_4 := pz_3.below b_4 pz_3.lt
  have br_4 := br_3.below b_4 br_3.lt
  have G_4 := Go.Lib.grownBy_trans G_3 (below_row b_4 _)
  have z0_4 := pz_4.cell0
  have z1_4 := pz_4.cell1
  have z2_4 := pz_4.cell2
  have z3_4 := pz_4.cell3
  have z4_4 := pz_4.cell4
  have r0_4 := br_4.cell0
  have r1_4 := br_4.cell1
  have r2_4 := br_4.cell2
  go_wp2_with fail
  refine (hop_calls g l (st2 l) 47 47 false _ rfl d47 pz_4 hl i2).mono ?_
  rintro e w5 ⟨rfl, pz_5, gr_5⟩
  have br_5 := br_4.grownZ gr_5 hrg
  have G_5 := Go.Lib.grownBy_trans G_4 gr_5
  have den_5 := den_4.grownZ pz_4 gr_5
  have z0_5 := pz_5.cell0
  have z1_5 := pz_5.cell1
  have z2_5 := pz_5.cell2
  have z3_5 := pz_5.cell3
  have z4_5 := pz_5.cell4
  have r0_5 := br_5.cell0
  have r1_5 := br_5.cell1
  have r2_5 := br_5.cell2
  rw [e47] at pz_5
  go_wp2_with fail
  refine (hop_calls g l (st2 l) 46 46 true _ rfl d46 pz_5 hl i2).mono ?_
  rintro e w6 ⟨rfl, pz_6, gr_6⟩
  have br_6 := br_5.grownZ gr_6 hrg
  have G_6 := Go.Lib.grownBy_trans G_5 gr_6
  have den_6 := den_5.grownZ pz_5 gr_6
  have z0_6 := pz_6.cell0
  have z1_6 := pz_6.cell1
  have z2_6 := pz_6.cell2
  have z3_6 := pz_6.cell3
  have z4_6 := pz_6.cell4
  have r0_6 := br_6.cell0
  have r1_6 := br_6.cell1
  have r2_6 := br_6.cell2
  rw [e46] at pz_6
  go_wp2_with fail
  refine ((pdig_calls g l (st2 l).skip _ pz_6 hl i3 c3).mono (R' := GPz _ g l ((st2 l).skip.dig l) (.string (bs T2))) (fun _ _ hh => by rw [← dg2.out]; exact hh)).mono ?_
  rintro e w7 ⟨rfl, pz_7, gr_7⟩
  have br_7 := br_6.grownZ gr_7 hrg
  have G_7 := Go.Lib.grownBy_trans G_6 gr_7
  have z0_7 := pz_7.cell0
  have z1_7 := pz_7.cell1
  have z2_7 := pz_7.cell2
  have z3_7 := pz_7.cell3
  have z4_7 := pz_7.cell4
  have r0_7 := br_7.cell0
  have r1_7 := br_7.cell1
  have r2_7 := br_7.cell2
  have hsz2 := bs_size T2
  have hcat : bs T1 ++ bs T2 = bs (T1 ++ T2) := bs_append T1 T2
  have zz1 : ¬ (9223372036854775807 < (bs T1).size + (bs T2).size) := by rw [bs_size, bs_size]; omega
  go_wp2_with fail
  refine (powT_calls T2.length _ _ (by omega) rfl).mono ?_
  rintro e w8 ⟨Ad2, nd2, cd2, rfl, den_8, b_8⟩
  have pz_8 := pz_7.below b_8 pz_7.lt
  have br_8 := br_7.below b_8 br_7.lt
  have G_8 := Go.Lib.grownBy_trans G_7 (below_row b_8 _)
  have z0_8 := pz_8.cell0
  have z1_8 := pz_8.cell1
  have z2_8 := pz_8.cell2
  have z3_8 := pz_8.cell3
  have z4_8 := pz_8.cell4
  have r0_8 := br_8.cell0
  have r1_8 := br_8.cell1
  have r2_8 := br_8.cell2
  go_wp2_with fail
  refine (fin_calls g l ((st2 l).skip.dig l) _ pz_8).mono ?_
  rintro e w9 ⟨rfl, pz_9, gr_9⟩
  have br_9 := br_8.grownZ gr_9 hrg
  have G_9 := Go.Lib.grownBy_trans G_8 gr_9
  have den_9 := den_8.grownZ pz_8 gr_9
  have z0_9 := pz_9.cell0
  have z1_9 := pz_9.cell1
  have z2_9 := pz_9.cell2
  have z3_9 := pz_9.cell3
  have z4_9 := pz_9.cell4
  have r0_9 := br_9.cell0
  have r1_9 := br_9.cell1
  have r2_9 := br_9.cell2
  go_wp2_with fail
  refine (numberOf_calls (T1 ++ T2) _ (fun c hc => (List.mem_append.1 hc).elim (T1d c) (T2d c)) (by first | omega | (rw [List.length_append]; omega))).mono ?_
  rintro e w10 ⟨An, nn, cn, rfl, num_10, b_10⟩
  have pz_10 := pz_9.below b_10 pz_9.lt
  have br_10 := br_9.below b_10 br_9.lt
  have G_10 := Go.Lib.grownBy_trans G_9 (below_row b_10 _)
  have den_10 := den_9.below b_10
  have z0_10 := pz_10.cell0
  have z1_10 := pz_10.cell1
  have z2_10 := pz_10.cell2
  have z3_10 := pz_10.cell3
  have z4_10 := pz_10.cell4
  have r0_10 := br_10.cell0
  have r1_10 := br_10.cell1
  have r2_10 := br_10.cell2
  have hd0 := ivd_ne (D := 10 ^ T2.length) (Nat.ne_of_gt (Nat.pow_pos (by decide)))
  go_wp2_with fail
  refine (make_q (sgn1 l) false _ _ _ _ _ _ (iv (sgn1 l) (dg (dval (T1 ++ T2)))) (iv false (dg (10 ^ T2.length))) _ _ (make_value (sgn1 l) (dval (T1 ++ T2)) (10 ^ T2.length)) hd0 (num_10.iz (sgn1 l)) (den_10.iz false) (by have := num_10.1; first | omega | (rw [List.length_append] at this; omega)) (by have := den_10.1; omega)).mono ?_
  rintro e w11 ⟨sx, Ax, nx, cx, Bx, mx, dx, rfl, x_11, b_11⟩
  have pz_11 := pz_10.below b_11 pz_10.lt
  have br_11 := br_10.below b_11 br_10.lt
  have G_11 := Go.Lib.grownBy_trans G_10 (below_row b_11 _)
  have den_11 := den_10.below b_11
  have num_11 := num_10.below b_11
  have z0_11 := pz_11.cell0
  have z1_11 := pz_11.cell1
  have z2_11 := pz_11.cell2
  have z3_11 := pz_11.cell3
  have z4_11 := pz_11.cell4
  have r0_11 := br_11.cell0
  have r1_11 := br_11.cell1
  have r2_11 := br_11.cell2
  have pz_12 := pz_11.alloc (EQ sx Ax nx cx Bx mx dx)
  have br_12 := br_11.alloc (EQ sx Ax nx cx Bx mx dx)
  have G_12 := Go.Lib.grownBy_trans G_11 (World.grownBy_alloc w11 (EQ sx Ax nx cx Bx mx dx) (some g))
  have x_12 := x_11.alloc (EQ sx Ax nx cx Bx mx dx)
  have bx_12 := Sq.new w11 (.bool sx) (.slice Ax nx cx) (.slice Bx mx dx)
  have xg : w11.heap.size ≠ g := Nat.ne_of_gt pz_11.lt
  have z0_12 := pz_12.cell0
  have z1_12 := pz_12.cell1
  have z2_12 := pz_12.cell2
  have z3_12 := pz_12.cell3
  have z4_12 := pz_12.cell4
  have r0_12 := br_12.cell0
  have r1_12 := br_12.cell1
  have r2_12 := br_12.cell2
  have q0_12 := bx_12.cell0
  have q1_12 := bx_12.cell1
  have q2_12 := bx_12.cell2
  have f0_12 := br_12.frozen 0
  have f1_12 := br_12.frozen 1
  have f2_12 := br_12.frozen 2
  have ho : (((st2 l).skip.dig l).fin l).out (sgnq (sgn1 l) ((dval (T1 ++ T2) : Rat) / ((10 ^ T2.length : Nat) : Rat))) = pparse l := by
    have := HO.out ((st2 l).i + 1) (10 ^ T2.length) 0 rfl (sgnq (sgn1 l) ((dval (T1 ++ T2) : Rat) / ((10 ^ T2.length : Nat) : Rat))) (fun e => by cases e) (fun _ => Nat.ne_of_gt (Nat.pow_pos (by decide))) (fun _ _ e => by cases e) (fun _ => by rw [HT1.out, HT2.out, ← PS.txt_len, HT2.out, dval_append])
    unfold PS.done at this
    rw [if_neg (Nat.ne_of_gt (Nat.pow_pos (by decide)))] at this
    exact this
  go_wp2_with fail
  refine bodyPost_ret (v := .agg #[.bool sx, .slice Ax nx cx, .slice Bx mx dx]) (by simp [results, Tryz.results31, go_sem, (br_12.set0 (.bool sx)).cell0, ((br_12.set0 (.bool sx)).set1 (.slice Ax nx cx)).cell1, (((br_12.set0 (.bool sx)).set1 (.slice Ax nx cx)).set2 (.slice Bx mx dx)).cell2]) rfl (num_end G_12 (Nat.le_refl _) hrg.symm br_12 x_12 pz_12 ho)
set_option maxHeartbeats 1000000 in
theorem number_C (g : Nat) (l : List UInt8) (w : World) (h : Pz w g l ⟨0, 0, 0, 0⟩) (hl : l.length ≤ 100000) (h7 : l[(st2 l).i]? ≠ some 47) (h6 : l[(st2 l).i]? ≠ some 46) :
    Calls Tryz.prog 31 #[.pointer (some ⟨g, 0, none⟩)] w (GNum w g l) := by
  have hrg : w.heap.size ≠ g := Nat.ne_of_gt h.lt
  have pz_1 := h.alloc EQ0
  have br_1 := Sq.new w (.bool false) (.slice none 0 0) (.slice none 0 0)
  have G_1 : w.grownBy (w.alloc EQ0) (some g) := World.grownBy_alloc w EQ0 (some g)
  have t1 := txt1_len l
  have i1 := st1_le l
  have c1 : (st1 l).c ≤ 4000 := by rw [st1_c]; omega
  have i2 := st2_le l
  have c2 := st2_c l
  have HO := hide (fun t V hV => run_plain (l := l) h7 h6 t V hV)
  have d47 : decide (l[(st2 l).i]? = some 47) = false := decide_eq_false h7
  have d46 : decide (l[(st2 l).i]? = some 46) = false := decide_eq_false h6
  have e47 : (st2 l).hop l 47 = st2 l := if_neg h7
  have e46 : (st2 l).hop l 46 = st2 l := if_neg h6
  clear h7 h6
  obtain ⟨T1, hT1⟩ : ∃ T1, (st1 l).txt l = T1 := ⟨_, rfl⟩
  have T1d : ∀ c ∈ T1, isd c = true := hT1 ▸ PS.txt_isd l (st1 l)
  rw [hT1] at t1
  have HT1 := hide hT1
  have dg1 : Hid (bs ((st1 l).txt l) = bs T1) := hide (by rw [hT1])
  clear hT1
  go_enter Tryz.func31, Tryz.ntmps31
  have z0_1 := pz_1.cell0
  have z1_1 := pz_1.cell1
  have z2_1 := pz_1.cell2
  have z3_1 := pz_1.cell3
  have z4_1 := pz_1.cell4
  have r0_1 := br_1.cell0
  have r1_1 := br_1.cell1
  have r2_1 := br_1.cell2
  go_wp2_with fail
  refine (hop_calls g l ⟨0, 0, 0, 0⟩ 45 45 (sgn1 l) _ rfl rfl pz_1 hl (Nat.zero_le _)).mono ?_
  rintro e w2 ⟨rfl, pz_2, gr_2⟩
  have br_2 := br_1.grownZ gr_2 hrg
  have G_2 := Go.Lib.grownBy_trans G_1 gr_2
  have z0_2 := pz_2.cell0
  have z1_2 := pz_2.cell1
  have z2_2 := pz_2.cell2
  have z3_2 := pz_2.cell3
  have z4_2 := pz_2.cell4
  have r0_2 := br_2.cell0
  have r1_2 := br_2.cell1
  have r2_2 := br_2.cell2
  rw [hop_st1] at pz_2
  have z0_2 := pz_2.cell0
  have z1_2 := pz_2.cell1
  have z2_2 := pz_2.cell2
  have z3_2 := pz_2.cell3
  have z4_2 := pz_2.cell4
  go_wp2_with fail
  refine ((pdig_calls g l (st1 l) _ pz_2 hl i1 c1).mono (R' := GPz _ g l (st2 l) (.string (bs T1))) (fun _ _ hh => by rw [← dg1.out]; exact hh)).mono ?_
  rintro e w3 ⟨rfl, pz_3, gr_3⟩
  have br_3 := br_2.grownZ gr_3 hrg
  have G_3 := Go.Lib.grownBy_trans G_2 gr_3
  have z0_3 := pz_3.cell0
  have z1_3 := pz_3.cell1
  have z2_3 := pz_3.cell2
  have z3_3 := pz_3.cell3
  have z4_3 := pz_3.cell4
  have r0_3 := br_3.cell0
  have r1_3 := br_3.cell1
  have r2_3 := br_3.cell2
  go_wp2_with fail
  refine (one_n _ 1 (Nat.le_refl _)).mono ?_
  rintro e w4 ⟨Ad, nd, cd, rfl, den_4, b_4⟩
  have pz_4 := pz_3.below b_4 pz_3.lt
  have br_4 := br_3.below b_4 br_3.lt
  have G_4 := Go.Lib.grownBy_trans G_3 (below_row b_4 _)
  have z0_4 := pz_4.cell0
  have z1_4 := pz_4.cell1
  have z2_4 := pz_4.cell2
  have z3_4 := pz_4.cell3
  have z4_4 := pz_4.cell4
  have r0_4 := br_4.cell0
  have r1_4 := br_4.cell1
  have r2_4 := br_4.cell2
  go_wp2_with fail
  refine (hop_calls g l (st2 l) 47 47 false _ rfl d47 pz_4 hl i2).mono ?_
  rintro e w5 ⟨rfl, pz_5, gr_5⟩
  have br_5 := br_4.grownZ gr_5 hrg
  have G_5 := Go.Lib.grownBy_trans G_4 gr_5
  have den_5 := den_4.grownZ pz_4 gr_5
  have z0_5 := pz_5.cell0
  have z1_5 := pz_5.cell1
  have z2_5 := pz_5.cell2
  have z3_5 := pz_5.cell3
  have z4_5 := pz_5.cell4
  have r0_5 := br_5.cell0
  have r1_5 := br_5.cell1
  have r2_5 := br_5.cell2
  rw [e47] at pz_5
  go_wp2_with fail
  refine (hop_calls g l (st2 l) 46 46 false _ rfl d46 pz_5 hl i2).mono ?_
  rintro e w6 ⟨rfl, pz_6, gr_6⟩
  have br_6 := br_5.grownZ gr_6 hrg
  have G_6 := Go.Lib.grownBy_trans G_5 gr_6
  have den_6 := den_5.grownZ pz_5 gr_6
  have z0_6 := pz_6.cell0
  have z1_6 := pz_6.cell1
  have z2_6 := pz_6.cell2
  have z3_6 := pz_6.cell3
  have z4_6 := pz_6.cell4
  have r0_6 := br_6.cell0
  have r1_6 := br_6.cell1
  have r2_6 := br_6.cell2
  rw [e46] at pz_6
  go_wp2_with fail
  refine (fin_calls g l (st2 l) _ pz_6).mono ?_
  rintro e w7 ⟨rfl, pz_7, gr_7⟩
  have br_7 := br_6.grownZ gr_7 hrg
  have G_7 := Go.Lib.grownBy_trans G_6 gr_7
  have den_7 := den_6.grownZ pz_6 gr_7
  have z0_7 := pz_7.cell0
  have z1_7 := pz_7.cell1
  have z2_7 := pz_7.cell2
  have z3_7 := pz_7.cell3
  have z4_7 := pz_7.cell4
  have r0_7 := br_7.cell0
  have r1_7 := br_7.cell1
  have r2_7 := br_7.cell2
  go_wp2_with fail
  refine (numberOf_calls T1 _ T1d (by first | omega | (rw [List.length_append]; omega))).mono ?_
  rintro e w8 ⟨An, nn, cn, rfl, num_8, b_8⟩
  have pz_8 := pz_7.below b_8 pz_7.lt
  have br_8 := br_7.below b_8 br_7.lt
  have G_8 := Go.Lib.grownBy_trans G_7 (below_row b_8 _)
  have den_8 := den_7.below b_8
  have z0_8 := pz_8.cell0
  have z1_8 := pz_8.cell1
  have z2_8 := pz_8.cell2
  have z3_8 := pz_8.cell3
  have z4_8 := pz_8.cell4
  have r0_8 := br_8.cell0
  have r1_8 := br_8.cell1
  have r2_8 := br_8.cell2
  have hd0 := ivd_ne (D := 1) (by decide)
  go_wp2_with fail
  refine (make_q (sgn1 l) false _ _ _ _ _ _ (iv (sgn1 l) (dg (dval T1))) (iv false (dg (1))) _ _ (make_value (sgn1 l) (dval T1) (1)) hd0 (num_8.iz (sgn1 l)) (den_8.iz false) (by have := num_8.1; first | omega | (rw [List.length_append] at this; omega)) (by have := den_8.1; omega)).mono ?_
  rintro e w9 ⟨sx, Ax, nx, cx, Bx, mx, dx, rfl, x_9, b_9⟩
  have pz_9 := pz_8.below b_9 pz_8.lt
  have br_9 := br_8.below b_9 br_8.lt
  have G_9 := Go.Lib.grownBy_trans G_8 (below_row b_9 _)
  have den_9 := den_8.below b_9
  have num_9 := num_8.below b_9
  have z0_9 := pz_9.cell0
  have z1_9 := pz_9.cell1
  have z2_9 := pz_9.cell2
  have z3_9 := pz_9.cell3
  have z4_9 := pz_9.cell4
  have r0_9 := br_9.cell0
  have r1_9 := br_9.cell1
  have r2_9 := br_9.cell2
  have pz_10 := pz_9.alloc (EQ sx Ax nx cx Bx mx dx)
  have br_10 := br_9.alloc (EQ sx Ax nx cx Bx mx dx)
  have G_10 := Go.Lib.grownBy_trans G_9 (World.grownBy_alloc w9 (EQ sx Ax nx cx Bx mx dx) (some g))
  have x_10 := x_9.alloc (EQ sx Ax nx cx Bx mx dx)
  have bx_10 := Sq.new w9 (.bool sx) (.slice Ax nx cx) (.slice Bx mx dx)
  have xg : w9.heap.size ≠ g := Nat.ne_of_gt pz_9.lt
  have z0_10 := pz_10.cell0
  have z1_10 := pz_10.cell1
  have z2_10 := pz_10.cell2
  have z3_10 := pz_10.cell3
  have z4_10 := pz_10.cell4
  have r0_10 := br_10.cell0
  have r1_10 := br_10.cell1
  have r2_10 := br_10.cell2
  have q0_10 := bx_10.cell0
  have q1_10 := bx_10.cell1
  have q2_10 := bx_10.cell2
  have f0_10 := br_10.frozen 0
  have f1_10 := br_10.frozen 1
  have f2_10 := br_10.frozen 2
  have ho : ((st2 l).fin l).out (sgnq (sgn1 l) ((dval T1 : Rat) / ((1 : Nat) : Rat))) = pparse l := by
    have := HO.out 0 (dval T1) (by rw [HT1.out])
    unfold PS.done at this
    rw [if_neg (by decide)] at this
    exact this
  go_wp2_with fail
  refine bodyPost_ret (v := .agg #[.bool sx, .slice Ax nx cx, .slice Bx mx dx]) (by simp [results, Tryz.results31, go_sem, (br_10.set0 (.bool sx)).cell0, ((br_10.set0 (.bool sx)).set1 (.slice Ax nx cx)).cell1, (((br_10.set0 (.bool sx)).set1 (.slice Ax nx cx)).set2 (.slice Bx mx dx)).cell2]) rfl (num_end G_10 (Nat.le_refl _) hrg.symm br_10 x_10 pz_10 ho)
end Go.Proofs.YtjpchbcenbjibaaGreatDoor
