/-
  The walk of IntegerNeg.
-/
import Derived.Test.YtefcpcekoihgjaaJ1
import Derived.Deep.RegionHeld3
namespace Go.Proofs.Ytefcpcekoihgjaa
open Go.RowKit
set_option linter.unusedVariables false
set_option linter.unusedSimpArgs false

theorem Cz.l1 {w : World} {s : Bool} {A : Option Addr} {n c : Nat} {z : Int} (h : Cz w s A n c z) (hz : z.natAbs < pw 60) : n ≤ 65535 := Nat.le_trans (h.len hz) (by decide)
theorem Cz.l2 {w : World} {s : Bool} {A : Option Addr} {n c : Nat} {z : Int} (h : Cz w s A n c z) (hz : z.natAbs < pw 60) : n ≤ 65536 := Nat.le_trans (h.len hz) (by decide)
theorem Cz.l3 {w : World} {s : Bool} {A : Option Addr} {n c : Nat} {z : Int} (h : Cz w s A n c z) (hz : z.natAbs < pw 60) : n ≤ 1048576 := Nat.le_trans (h.len hz) (by decide)
theorem Cz.to {w : World} {s : Bool} {A : Option Addr} {n c : Nat} {z y : Int} (h : Cz w s A n c z) (e : z = y) : Cz w s A n c y := e ▸ h
theorem pw_lt {x j k : Nat} (h : x < pw j) (hjk : j ≤ k) : x < pw k := Nat.lt_of_lt_of_le h (pw_mono hjk)
theorem sz_cases (z : Int) : sz z = -1 ∨ sz z = 0 ∨ sz z = 1 := by
  unfold sz
  (repeat' split) <;> simp
theorem sz_opp (z : Int) : sz (-z) = - sz z := by
  unfold sz
  (repeat' split) <;> omega
theorem law_neg_long (s : Bool) (A : Option Addr) (n c : Nat) (w : World) (hn : ¬ n ≤ 30) :
    Calls Try.prog 9 #[.agg #[.bool s, .slice A n c]] w fun e w' => e = .returned (.bool true) ∧ Below w.heap.size w w' := by
  have d1 : decide ((30 : Int) < (n : Int)) = true := by simp; omega
  clear hn
  have bx_1 : Sb ((w).alloc (EI s A n c)) (w.heap.size) (.bool s) (.slice A n c) := by have h_ := Sb.new (w) (.bool s) (.slice A n c); exact h_
  have F1 := (Below.refl w.heap.size w).alloc (Nat.le_refl _) (EI s A n c)
  go_enter Try.func9, Try.ntmps9
  go_wp2_with fail
  refine (awake_int _).mono ?_
  rintro e w2 ⟨rfl, b2⟩
  have bx_2 := bx_1.below b2 bx_1.lt
  have F2 := below_then F1 (Nat.le_refl _) b2
  have bx_u2 := bx_2.cell0
  have bx_v2 := bx_2.cell1
  go_wp2
  go_ret
  exact ⟨rfl, F2⟩
set_option maxHeartbeats 1000000 in
theorem law_neg (s : Bool) (A : Option Addr) (n c : Nat) (z r q : Int) (w : World) (h : Iz w s A n c z) (hn : n ≤ 30) (hr : sz z = r) (hq : sz (-z) = q) (hrq : r = -1 ∧ q = 1 ∨ r = 0 ∧ q = 0 ∨ r = 1 ∧ q = -1) :
    Calls Try.prog 9 #[.agg #[.bool s, .slice A n c]] w fun e w' => e = .returned (.bool true) ∧ Below w.heap.size w w' := by
  have d1 : decide ((30 : Int) < (n : Int)) = false := by simp; omega
  have lz := pw_lt (k := 60) (h.abs hn) (by decide)
  have lz2 : (-z).natAbs < pw 60 := by omega
  have hn3 : n ≤ 1048576 := by omega
  have HR := hide hr
  have HQ := hide hq
  have HZ := hide (Int.neg_neg z)
  clear hr hq hn
  rcases hrq with ⟨rfl, rfl⟩ | ⟨rfl, rfl⟩ | ⟨rfl, rfl⟩
  all_goals
   have h_1 := h.alloc (EI s A n c)
   have bx_1 : Sb ((w).alloc (EI s A n c)) (w.heap.size) (.bool s) (.slice A n c) := by have h_ := Sb.new (w) (.bool s) (.slice A n c); exact h_
   have F1 := (Below.refl w.heap.size w).alloc (Nat.le_refl _) (EI s A n c)
   go_enter Try.func9, Try.ntmps9
   go_wp2_with fail
   refine (awake_int _).mono ?_
   rintro e w2 ⟨rfl, b2⟩
   have h_2 := h_1.below b2
   have bx_2 := bx_1.below b2 bx_1.lt
   have F2 := below_then F1 (Nat.le_refl _) b2
   have bx_u2 := bx_2.cell0
   have bx_v2 := bx_2.cell1
   go_wp2_with fail
   refine (neg_int _ _ _ _ _ _ h_2 hn3).mono ?_
   rintro e w3 ⟨s3, A3, n3, c3, rfl, m, b3⟩
   have h_3 := h_2.below b3
   have bx_3 := bx_2.below b3 bx_2.lt
   have F3 := below_then F2 (Nat.le_refl _) b3
   have bx_u3 := bx_3.cell0
   have bx_v3 := bx_3.cell1
   have h_4 := h_3.alloc (EI s3 A3 n3 c3)
   have m_4 := m.alloc (EI s3 A3 n3 c3)
   have bx_4 := bx_3.alloc (EI s3 A3 n3 c3)
   have bn_4 : Sb ((w3).alloc (EI s3 A3 n3 c3)) (w3.heap.size) (.bool s3) (.slice A3 n3 c3) := by have h_ := Sb.new (w3) (.bool s3) (.slice A3 n3 c3); exact h_
   have F4 := F3.alloc (by simpa using F3.size) (EI s3 A3 n3 c3)
   go_wp2_with fail
   have h_5 := h_4.drew
   have m_5 := m_4.drew
   have bx_5 := bx_4.drew
   have bn_5 := bn_4.drew
   have F5 := F4.drew
   go_region_held3 (fun w' => w'.cell? ⟨w.heap.size, 0, none⟩ = some (.bool s) ∧ w'.cell? ⟨w.heap.size, 1, none⟩ = some (.slice A n c) ∧ w'.cell? ⟨w3.heap.size, 0, none⟩ = some (.bool s3) ∧ w'.cell? ⟨w3.heap.size, 1, none⟩ = some (.slice A3 n3 c3))
     (first
       | exact ⟨bx_12.cell0, bx_12.cell1, bn_12.cell0, bn_12.cell1⟩
       | exact ⟨bx_11.cell0, bx_11.cell1, bn_11.cell0, bn_11.cell1⟩
       | exact ⟨bx_10.cell0, bx_10.cell1, bn_10.cell0, bn_10.cell1⟩
       | exact ⟨bx_9.cell0, bx_9.cell1, bn_9.cell0, bn_9.cell1⟩
       | exact ⟨bx_8.cell0, bx_8.cell1, bn_8.cell0, bn_8.cell1⟩
       | exact ⟨bx_7.cell0, bx_7.cell1, bn_7.cell0, bn_7.cell1⟩
       | exact ⟨bx_6.cell0, bx_6.cell1, bn_6.cell0, bn_6.cell1⟩
       | exact ⟨bx_5.cell0, bx_5.cell1, bn_5.cell0, bn_5.cell1⟩
       | fail)
     (first
       | (go_at_call 34; (with_reducible refine (rneg_int _ _ _ _ _ _ h_5 hn3).mono ?_); rintro e w6 ⟨s6, A6, n6, c6, rfl, k, b6⟩; have h_6 := h_5.below b6; have m_6 := m_5.below b6; have bx_6 := bx_5.below b6 bx_5.lt; have bn_6 := bn_5.below b6 bn_5.lt; have F6 := below_then F5 (Nat.le_refl _) b6)
       | (go_at_call 12; (with_reducible refine (same_int _ _ _ _ _ _ _ _ _ _ m_6 k (m_6.l3 lz2)).mono ?_); rintro e w7 ⟨rfl, b7⟩; have h_7 := h_6.below b7; have m_7 := m_6.below b7; have k_7 := k.below b7; have bx_7 := bx_6.below b7 bx_6.lt; have bn_7 := bn_6.below b7 bn_6.lt; have F7 := below_then F6 (Nat.le_refl _) b7)
       | (go_at_call 27; (with_reducible refine (neg_int _ _ _ _ _ _ m_7.iz (m_7.l3 lz2)).mono ?_); rintro e w8 ⟨s8, A8, n8, c8, rfl, m2, b8⟩; have h_8 := h_7.below b8; have m_8 := m_7.below b8; have k_8 := k_7.below b8; have bx_8 := bx_7.below b8 bx_7.lt; have bn_8 := bn_7.below b8 bn_7.lt; have F8 := below_then F7 (Nat.le_refl _) b8)
       | (go_at_call 13; (with_reducible refine (rmake_int _ _ _ _ z _ h_8 hn3).mono ?_); rintro e w9 ⟨s9, A9, n9, c9, rfl, k2, b9⟩; have h_9 := h_8.below b9; have m_9 := m_8.below b9; have k_9 := k_8.below b9; have m2_9 := m2.below b9; have bx_9 := bx_8.below b9 bx_8.lt; have bn_9 := bn_8.below b9 bn_8.lt; have F9 := below_then F8 (Nat.le_refl _) b9)
       | (go_at_call 12; (with_reducible refine (same_int _ _ _ _ _ _ _ _ z _ (m2_9.to HZ.out) k2 ((m2_9.to HZ.out).l3 lz)).mono ?_); rintro e w10 ⟨rfl, b10⟩; have h_10 := h_9.below b10; have m_10 := m_9.below b10; have k_10 := k_9.below b10; have m2_10 := m2_9.below b10; have k2_10 := k2.below b10; have bx_10 := bx_9.below b10 bx_9.lt; have bn_10 := bn_9.below b10 bn_9.lt; have F10 := below_then F9 (Nat.le_refl _) b10)
       | (go_at_call 16; (with_reducible refine (sign_int _ _ _ _ _ _ _ HQ.out m_10.iz (m_10.l3 lz2)).mono ?_); rintro e w11 ⟨rfl, b11⟩; have h_11 := h_10.below b11; have m_11 := m_10.below b11; have k_11 := k_10.below b11; have m2_11 := m2_10.below b11; have k2_11 := k2_10.below b11; have bx_11 := bx_10.below b11 bx_10.lt; have bn_11 := bn_10.below b11 bn_10.lt; have F11 := below_then F10 (Nat.le_refl _) b11)
       | (go_at_call 16; (with_reducible refine (sign_int _ _ _ _ _ _ _ HR.out h_11 hn3).mono ?_); rintro e w12 ⟨rfl, b12⟩; have h_12 := h_11.below b12; have m_12 := m_11.below b12; have k_12 := k_11.below b12; have m2_12 := m2_11.below b12; have k2_12 := k2_11.below b12; have bx_12 := bx_11.below b12 bx_11.lt; have bn_12 := bn_11.below b12 bn_11.lt; have F12 := below_then F11 (Nat.le_refl _) b12)
       | fail)
   have bx_u12 := bx_12.cell0
   have bx_v12 := bx_12.cell1
   have bn_u12 := bn_12.cell0
   have bn_v12 := bn_12.cell1
   go_wp2
   go_ret
   exact ⟨rfl, F12⟩
end Go.Proofs.Ytefcpcekoihgjaa
