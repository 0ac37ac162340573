/-
  Integers: DivMod where the remainder is turned; few.
-/
import Derived.Test.YtefcpcekoihgjaaI8
namespace Go.Proofs.Ytefcpcekoihgjaa
open Go.RowKit
set_option linter.unusedVariables false
set_option linter.unusedSimpArgs false

theorem add_len (A B : Option Addr) (n m c d : Nat) (X Y Z L : Nat) (w : World) (hZ : X + Y = Z) (hL : (dg Z).length = L) (h : Rd w A n c (dg X)) (h2 : Rd w B m d (dg Y)) (hn : n ≤ 1048576) (hm : m ≤ 1048576) :
    Calls Try.prog 46 #[.slice A n c, .slice B m d] w fun e w' => ∃ A1 c1, e = .returned (.slice A1 L c1) ∧ Rd w' A1 L c1 (dg Z) ∧ Below w.heap.size w w' := by
  subst hL
  exact add_at A B n m c d _ _ w X Y Z (val_dg X) (val_dg Y) hZ h h2 hn hm
theorem sub_len (A B : Option Addr) (n m c d : Nat) (ys : List Nat) (X Z L : Nat) (w : World) (hZ : val ys - X = Z) (hle : X ≤ val ys) (hL : (dg Z).length = L) (h2 : Rd w B m d ys) (h : Rd w A n c (dg X)) (hn : n ≤ 1048576) (hm : m ≤ 1048576) :
    Calls Try.prog 48 #[.slice B m d, .slice A n c] w fun e w' => ∃ A1 c1, e = .returned (.tuple #[.slice A1 L c1, .int .i64 0]) ∧ Rd w' A1 L c1 (dg Z) ∧ Below w.heap.size w w' := by
  subst hL
  exact sub_at B A m n d c _ _ w (val ys) X Z rfl (val_dg X) hZ hle h2 h hm hn
theorem divmod_floor (t : Bool) (A B : Option Addr) (n m c d : Nat) (xs ys : List Nat) (Q R : Int) (w : World) (h : Rd w A n c xs) (k : Rd w B m d ys) (hn : n ≤ 65536) (hm : m ≤ 65536) (h0 : 0 < val ys) (hpos : 0 < val xs % val ys)
    (hQ : (if (!true == t) = true then -((val xs / val ys + 1 : Nat) : Int) else ((val xs / val ys + 1 : Nat) : Int)) = Q) (hR : (if false = true then -((val ys - val xs % val ys : Nat) : Int) else ((val ys - val xs % val ys : Nat) : Int)) = R) :
    Calls Try.prog 32 #[.agg #[.bool true, .slice A n c], .agg #[.bool t, .slice B m d]] w (GII w Q R 0) := by
  have h1 := rd_alloc (rd_alloc (rd_alloc (rd_alloc h (EI true A n c)) (EI t B m d)) E0) E0
  have k1 := rd_alloc (rd_alloc (rd_alloc (rd_alloc k (EI true A n c)) (EI t B m d)) E0) E0
  have hle : val xs % val ys ≤ val ys := Nat.le_of_lt (Nat.mod_lt _ h0)
  have lx := rd_lt h hn
  have ly := rd_lt k hm
  obtain ⟨LQ, hLQ⟩ : ∃ L, (dg (val xs / val ys)).length = L := ⟨_, rfl⟩
  obtain ⟨LR, hLR⟩ : ∃ L, (dg (val xs % val ys)).length = L := ⟨_, rfl⟩
  obtain ⟨MQ, hMQ⟩ : ∃ L, (dg (val xs / val ys + 1)).length = L := ⟨_, rfl⟩
  obtain ⟨MR, hMR⟩ : ∃ L, (dg (val ys - val xs % val ys)).length = L := ⟨_, rfl⟩
  have lq : LQ ≤ 1048576 := by rw [← hLQ]; exact Nat.le_trans (dg_le (Nat.lt_of_le_of_lt (Nat.div_le_self _ _) lx)) (by omega)
  have lr : LR ≤ 1048576 := by rw [← hLR]; exact Nat.le_trans (dg_le (Nat.lt_of_le_of_lt hle ly)) (by omega)
  have l1 : (dg 1).length ≤ 1048576 := by rw [dg_small (by omega) (by omega)]; decide
  have hL0 : LR ≠ 0 := by
    intro e
    rw [e, List.length_eq_zero_iff, dg_nil_iff] at hLR
    omega
  have hd : 0 < LR := by omega
  have hm2 : m ≤ 1048576 := by omega
  have HQ := hide hQ
  have HR := hide hR
  have HLQ := hide hLQ
  have HLR := hide hLR
  have HMQ := hide hMQ
  have HMR := hide hMR
  have HL0 := hide hL0
  clear hQ hR hLR hLQ hMQ hMR lx ly hL0
  cases t
  all_goals
   go_enter Try.func32, Try.ntmps32
   go_wp2_with fail
   refine (divmod_len _ _ _ _ _ _ _ _ _ LQ LR HLQ.out HLR.out h0 h1 k1 hn hm).mono ?_
   rintro e w1 ⟨A1, c1, B1, d1, rfl, hq, hr, b1⟩
   obtain ⟨hB, ha, hb, hs, ht⟩ := ent4 b1
   have a0 := ha.cell0
   have e0 := hb.cell0
   have e1 := hb.cell1
   have hy1 := k1.below b1
   go_wp2_with fail
   refine (of_int _ 1 _ rfl (by omega)).mono ?_
   rintro e w4 ⟨A4, c4, rfl, h4, b4⟩
   have hb4 := hb.below b4 hb.lt
   have x1 := hb4.cell1
   go_wp2_with fail
   refine (add_len _ _ _ _ _ _ _ _ _ MQ _ rfl HMQ.out (hq.below b4) h4 lq l1).mono ?_
   rintro e w5 ⟨A5, c5, rfl, h5, b5⟩
   have b45 := below_then b4 (Nat.le_refl _) b5
   have hb5 := hb.below b45 hb.lt
   have y1 := hb5.cell1
   go_wp2_with fail
   refine (sub_len _ _ _ _ _ _ _ _ _ MR _ rfl hle HMR.out (hy1.below b45) (hr.below b45) lr hm2).mono ?_
   rintro e w6 ⟨A6, c6, rfl, h6, b6⟩
   have b46 := below_then b45 (Nat.le_refl _) b6
   have ha6 := ha.below b46 ha.lt
   have hb6 := hb.below b46 hb.lt
   have z0 := ha6.cell0
   have z1 := hb6.cell0
   go_wp2_with fail
   refine (signed_calls _ _ _ _ _ Q _ (h5.below b6) (by have := HQ.out; simpa using this)).mono ?_
   rintro e w2 ⟨s2, A2, n2, c2, rfl, hcq, b2⟩
   have hr2 := h6.below b2
   go_wp2_with fail
   refine (signed_calls _ _ _ _ _ R _ hr2 HR.out).mono ?_
   rintro e w3 ⟨s3, A3, n3, c3, rfl, hcr, b3⟩
   have b23 := below_then (below_then b46 (Nat.le_refl _) b2) (Nat.le_refl _) b3
   have hs2 := hs.below b23 hs.lt
   have ht2 := ht.below b23 ht.lt
   have hB3 := below_then hB (Nat.le_refl _) b23
   have hcq3 := hcq.below b3
   have k0 := hs2.cell0
   have k1 := hs2.cell1
   have k2 := hs2.frozen 0
   have k3 := hs2.frozen 1
   have l0 := ht2.cell0
   have l1 := ht2.cell1
   have l2 := ht2.frozen 0
   have l3 := ht2.frozen 1
   go_wp2_with fail
   have q1 := (hs2.stor (u0 := .bool s2) (u1 := .slice A2 n2 c2)).past (g' := w.heap.size + 3) (u0 := .bool s3) (u1 := .slice A3 n3 c3) (by omega)
   have q2 := (ht2.past (g' := w.heap.size + 2) (u0 := .bool s2) (u1 := .slice A2 n2 c2) (by omega)).stor (u0 := .bool s3) (u1 := .slice A3 n3 c3)
   refine bodyPost_ret (v := .tuple #[.agg #[.bool s2, .slice A2 n2 c2], .agg #[.bool s3, .slice A3 n3 c3], .int .i64 0]) (by simp [results, Try.results32, go_sem, q1.cell0, q1.cell1, q2.cell0, q2.cell1]) rfl (gii_end 0 hB3 (by omega) hs2 ht2 hcq3 hcr)
theorem divmod_int (s t : Bool) (A B : Option Addr) (n m c d : Nat) (z y Q R : Int) (w : World) (hQ : z / y = Q) (hR : z % y = R) (h0 : y ≠ 0) (h : Iz w s A n c z) (k : Iz w t B m d y) (hn : n ≤ 65536) (hm : m ≤ 65536) :
    Calls Try.prog 32 #[.agg #[.bool s, .slice A n c], .agg #[.bool t, .slice B m d]] w (GII w Q R 0) := by
  obtain ⟨xs, h, hx⟩ := h
  obtain ⟨ys, k, hy⟩ := k
  have hpos : 0 < val ys := by have := iv_abs t ys; rw [hy] at this; omega
  have ey : (if t then -(val ys : Int) else (val ys : Int)) = y := hy
  rw [← hQ, ← hR]
  cases s
  · have ex : (if false = true then -(val xs : Int) else (val xs : Int)) = z := hx
    obtain ⟨e1, e2⟩ := dm_plain (X := val xs) (Y := val ys) false t hpos (.inl rfl)
    rw [ex, ey] at e1 e2
    exact divmod_pos t A B n m c d xs ys _ _ _ w h k hn hm hpos rfl e1 e2
  · have ex : (if true = true then -(val xs : Int) else (val xs : Int)) = z := hx
    rcases Nat.eq_zero_or_pos (val xs % val ys) with hr | hr
    · obtain ⟨e1, e2⟩ := dm_plain (X := val xs) (Y := val ys) true t hpos (.inr hr)
      rw [ex, ey] at e1 e2
      exact divmod_exact t A B n m c d xs ys _ _ 0 w h k hn hm hpos (by rw [hr]; rfl) e1 e2
    · obtain ⟨e1, e2⟩ := dm_floor (X := val xs) (Y := val ys) t hpos hr
      have ez : -(val xs : Int) = z := by simpa using ex
      rw [ez, ey] at e1 e2
      exact divmod_floor t A B n m c d xs ys _ _ w h k hn hm hpos hr e1 e2
theorem divmod_int0 (s t : Bool) (A B : Option Addr) (n m c d : Nat) (z y : Int) (w : World) (h0 : y = 0) (h : Iz w s A n c z) (k : Iz w t B m d y) (hn : n ≤ 65536) (hm : m ≤ 65536) :
    Calls Try.prog 32 #[.agg #[.bool s, .slice A n c], .agg #[.bool t, .slice B m d]] w (GII w 0 0 3) := by
  obtain ⟨xs, h, hx⟩ := h
  obtain ⟨ys, k, hy⟩ := k
  exact divmod_zero s t A B n m c d xs ys w h k hn hm (by have := iv_abs t ys; rw [hy] at this; omega)
end Go.Proofs.Ytefcpcekoihgjaa
