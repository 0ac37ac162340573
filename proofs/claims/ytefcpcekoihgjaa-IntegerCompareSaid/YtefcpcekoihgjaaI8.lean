/-
  Integers: DivMod.
-/
import Derived.Test.YtefcpcekoihgjaaI7
namespace Go.Proofs.Ytefcpcekoihgjaa
open Go.RowKit
set_option linter.unusedVariables false
set_option linter.unusedSimpArgs false

/-- What a function hands back that makes two numbers and an error. -/
def GII (w : World) (z y r : Int) (e : Ending) (w' : World) : Prop := ∃ s A n c t B m d, e = .returned (.tuple #[.agg #[.bool s, .slice A n c], .agg #[.bool t, .slice B m d], .int .i64 r]) ∧ Cz w' s A n c z ∧ Cz w' t B m d y ∧ Below w.heap.size w w'
theorem gii_end {w w2 : World} {g : Nat} {s s0 t t0 : Bool} {A A0 B B0 : Option Addr} {n c n0 c0 m d m0 d0 : Nat} {z y : Int} (r : Int) (hB : Below w.heap.size w w2) (hg : w.heap.size ≤ g) (hs : Sb w2 g (.bool s0) (.slice A0 n0 c0)) (ht : Sb w2 (g + 1) (.bool t0) (.slice B0 m0 d0)) (hc : Cz w2 s A n c z) (hd : Cz w2 t B m d y) :
    GII w z y r (.returned (.tuple #[.agg #[.bool s, .slice A n c], .agg #[.bool t, .slice B m d], .int .i64 r])) ((((w2.setCell ⟨g, 0, none⟩ (.bool s)).setCell ⟨g, 1, none⟩ (.slice A n c)).setCell ⟨g + 1, 0, none⟩ (.bool t)).setCell ⟨g + 1, 1, none⟩ (.slice B m d)) := by
  have ht2 := ht.past (g' := g) (u0 := .bool s) (u1 := .slice A n c) (by omega)
  exact ⟨_, _, _, _, _, _, _, _, rfl, (hc.stor hs).stor ht2, (hd.stor hs).stor ht2, below_stor (below_stor hB hg) (by omega)⟩
theorem divmod_len (A B : Option Addr) (n m c d : Nat) (xs ys : List Nat) (w : World) (LQ LR : Nat) (hq : (dg (val xs / val ys)).length = LQ) (hr : (dg (val xs % val ys)).length = LR) (h0 : 0 < val ys) (h : Rd w A n c xs) (h2 : Rd w B m d ys) (hn : n ≤ 65536) (hm : m ≤ 65536) :
    Calls Try.prog 54 #[.slice A n c, .slice B m d] w fun e w' => ∃ A1 c1 B1 d1, e = .returned (.tuple #[.slice A1 LQ c1, .slice B1 LR d1, .int .i64 0]) ∧ Rd w' A1 LQ c1 (dg (val xs / val ys)) ∧ Rd w' B1 LR d1 (dg (val xs % val ys)) ∧ Below w.heap.size w w' := by
  subst hq hr
  exact divmod_calls A B n m c d xs ys w h h2 hn hm h0
theorem divmod_zero (s t : Bool) (A B : Option Addr) (n m c d : Nat) (xs ys : List Nat) (w : World) (h : Rd w A n c xs) (k : Rd w B m d ys) (hn : n ≤ 65536) (hm : m ≤ 65536) (h0 : val ys = 0) :
    Calls Try.prog 32 #[.agg #[.bool s, .slice A n c], .agg #[.bool t, .slice B m d]] w (GII w 0 0 3) := by
  have h1 := rd_alloc (rd_alloc (rd_alloc (rd_alloc h (EI s A n c)) (EI t B m d)) E0) E0
  have k1 := rd_alloc (rd_alloc (rd_alloc (rd_alloc k (EI s A n c)) (EI t B m d)) E0) E0
  go_enter Try.func32, Try.ntmps32
  go_wp2_with fail
  refine (dm0_at _ _ _ _ _ _ _ _ _ h0 h1 k1 hn hm).mono ?_
  rintro e w1 ⟨A1, c1, B1, d1, rfl, -, -, b1⟩
  obtain ⟨hB, ha, hb, hs2, ht2⟩ := ent4 b1
  have k0 := hs2.cell0
  have k1 := hs2.cell1
  have k2 := hs2.frozen 0
  have k3 := hs2.frozen 1
  have l0 := ht2.cell0
  have l1 := ht2.cell1
  have l2 := ht2.frozen 0
  have l3 := ht2.frozen 1
  go_wp2_with fail
  have hz : Cz w1 false none 0 0 0 := ⟨Rd.empty _ _ _, rfl⟩
  have q1 := (hs2.stor (u0 := .bool false) (u1 := .slice none 0 0)).past (g' := w.heap.size + 3) (u0 := .bool false) (u1 := .slice none 0 0) (by omega)
  have q2 := (ht2.past (g' := w.heap.size + 2) (u0 := .bool false) (u1 := .slice none 0 0) (by omega)).stor (u0 := .bool false) (u1 := .slice none 0 0)
  refine bodyPost_ret (v := .tuple #[.agg #[.bool false, .slice none 0 0], .agg #[.bool false, .slice none 0 0], .int .i64 3]) (by simp [results, Try.results32, go_sem, q1.cell0, q1.cell1, q2.cell0, q2.cell1]) rfl (gii_end 3 hB (by omega) hs2 ht2 hz hz)
theorem divmod_pos (t : Bool) (A B : Option Addr) (n m c d : Nat) (xs ys : List Nat) (Q R : Int) (LR : Nat) (w : World) (h : Rd w A n c xs) (k : Rd w B m d ys) (hn : n ≤ 65536) (hm : m ≤ 65536) (h0 : 0 < val ys)
    (hLR : (dg (val xs % val ys)).length = LR) (hQ : (if (!false == t) = true then -((val xs / val ys : Nat) : Int) else ((val xs / val ys : Nat) : Int)) = Q) (hR : (if false = true then -((val xs % val ys : Nat) : Int) else ((val xs % val ys : Nat) : Int)) = R) :
    Calls Try.prog 32 #[.agg #[.bool false, .slice A n c], .agg #[.bool t, .slice B m d]] w (GII w Q R 0) := by
  have h1 := rd_alloc (rd_alloc (rd_alloc (rd_alloc h (EI false A n c)) (EI t B m d)) E0) E0
  have k1 := rd_alloc (rd_alloc (rd_alloc (rd_alloc k (EI false A n c)) (EI t B m d)) E0) E0
  have HQ := hide hQ
  have HR := hide hR
  have HLR := hide hLR
  clear hQ hR hLR
  cases t
  all_goals
   go_enter Try.func32, Try.ntmps32
   go_wp2_with fail
   refine (divmod_len _ _ _ _ _ _ _ _ _ _ LR rfl HLR.out h0 h1 k1 hn hm).mono ?_
   rintro e w1 ⟨A1, c1, B1, d1, rfl, hq, hr, b1⟩
   obtain ⟨hB, ha, hb, hs, ht⟩ := ent4 b1
   have a0 := ha.cell0
   have e0 := hb.cell0
   go_wp2_with fail
   refine (signed_calls _ _ _ _ _ Q _ hq (by have := HQ.out; simpa using this)).mono ?_
   rintro e w2 ⟨s2, A2, n2, c2, rfl, hcq, b2⟩
   have hr2 := hr.below b2
   go_wp2_with fail
   refine (signed_calls _ _ _ _ _ R _ hr2 HR.out).mono ?_
   rintro e w3 ⟨s3, A3, n3, c3, rfl, hcr, b3⟩
   have b23 := below_then b2 (Nat.le_refl _) b3
   have hs2 := hs.below b23 hs.lt
   have ht2 := ht.below b23 ht.lt
   have hB3 := below_then hB (Nat.le_refl _) b23
   have hcq3 := hcq.below b3
   have k0 := hs2.cell0
   have k1 := hs2.cell1
   have k2 := hs2.frozen 0
   have k3 := hs2.frozen 1
   have l0 := ht2.cell0
   have l1 := ht2.cell1
   have l2 := ht2.frozen 0
   have l3 := ht2.frozen 1
   go_wp2_with fail
   have q1 := (hs2.stor (u0 := .bool s2) (u1 := .slice A2 n2 c2)).past (g' := w.heap.size + 3) (u0 := .bool s3) (u1 := .slice A3 n3 c3) (by omega)
   have q2 := (ht2.past (g' := w.heap.size + 2) (u0 := .bool s2) (u1 := .slice A2 n2 c2) (by omega)).stor (u0 := .bool s3) (u1 := .slice A3 n3 c3)
   refine bodyPost_ret (v := .tuple #[.agg #[.bool s2, .slice A2 n2 c2], .agg #[.bool s3, .slice A3 n3 c3], .int .i64 0]) (by simp [results, Try.results32, go_sem, q1.cell0, q1.cell1, q2.cell0, q2.cell1]) rfl (gii_end 0 hB3 (by omega) hs2 ht2 hcq3 hcr)
theorem divmod_exact (t : Bool) (A B : Option Addr) (n m c d : Nat) (xs ys : List Nat) (Q R : Int) (LR : Nat) (w : World) (h : Rd w A n c xs) (k : Rd w B m d ys) (hn : n ≤ 65536) (hm : m ≤ 65536) (h0 : 0 < val ys)
    (hLR : (dg (val xs % val ys)).length = 0) (hQ : (if (!true == t) = true then -((val xs / val ys : Nat) : Int) else ((val xs / val ys : Nat) : Int)) = Q) (hR : (if false = true then -((val xs % val ys : Nat) : Int) else ((val xs % val ys : Nat) : Int)) = R) :
    Calls Try.prog 32 #[.agg #[.bool true, .slice A n c], .agg #[.bool t, .slice B m d]] w (GII w Q R 0) := by
  have h1 := rd_alloc (rd_alloc (rd_alloc (rd_alloc h (EI true A n c)) (EI t B m d)) E0) E0
  have k1 := rd_alloc (rd_alloc (rd_alloc (rd_alloc k (EI true A n c)) (EI t B m d)) E0) E0
  have HQ := hide hQ
  have HR := hide hR
  have HLR := hide hLR
  clear hQ hR hLR
  cases t
  all_goals
   go_enter Try.func32, Try.ntmps32
   go_wp2_with fail
   refine (divmod_len _ _ _ _ _ _ _ _ _ _ 0 rfl HLR.out h0 h1 k1 hn hm).mono ?_
   rintro e w1 ⟨A1, c1, B1, d1, rfl, hq, hr, b1⟩
   obtain ⟨hB, ha, hb, hs, ht⟩ := ent4 b1
   have a0 := ha.cell0
   have e0 := hb.cell0
   go_wp2_with fail
   refine (signed_calls _ _ _ _ _ Q _ hq (by have := HQ.out; simpa using this)).mono ?_
   rintro e w2 ⟨s2, A2, n2, c2, rfl, hcq, b2⟩
   have hr2 := hr.below b2
   go_wp2_with fail
   refine (signed_calls _ _ _ _ _ R _ hr2 HR.out).mono ?_
   rintro e w3 ⟨s3, A3, n3, c3, rfl, hcr, b3⟩
   have b23 := below_then b2 (Nat.le_refl _) b3
   have hs2 := hs.below b23 hs.lt
   have ht2 := ht.below b23 ht.lt
   have hB3 := below_then hB (Nat.le_refl _) b23
   have hcq3 := hcq.below b3
   have k0 := hs2.cell0
   have k1 := hs2.cell1
   have k2 := hs2.frozen 0
   have k3 := hs2.frozen 1
   have l0 := ht2.cell0
   have l1 := ht2.cell1
   have l2 := ht2.frozen 0
   have l3 := ht2.frozen 1
   go_wp2_with fail
   have q1 := (hs2.stor (u0 := .bool s2) (u1 := .slice A2 n2 c2)).past (g' := w.heap.size + 3) (u0 := .bool s3) (u1 := .slice A3 n3 c3) (by omega)
   have q2 := (ht2.past (g' := w.heap.size + 2) (u0 := .bool s2) (u1 := .slice A2 n2 c2) (by omega)).stor (u0 := .bool s3) (u1 := .slice A3 n3 c3)
   refine bodyPost_ret (v := .tuple #[.agg #[.bool s2, .slice A2 n2 c2], .agg #[.bool s3, .slice A3 n3 c3], .int .i64 0]) (by simp [results, Try.results32, go_sem, q1.cell0, q1.cell1, q2.cell0, q2.cell1]) rfl (gii_end 0 hB3 (by omega) hs2 ht2 hcq3 hcr)
end Go.Proofs.Ytefcpcekoihgjaa
