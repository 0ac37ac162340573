/-
  The walk of IntegerMake.
-/
import Derived.Test.YtefcpcekoihgjaaNegLaw
import Derived.Deep.RegionHeld3
namespace Go.Proofs.Ytefcpcekoihgjaa
open Go.RowKit
set_option linter.unusedVariables false
set_option linter.unusedSimpArgs false

theorem Cz.rd {w : World} {s : Bool} {A : Option Addr} {n c : Nat} {z : Int} (h : Cz w s A n c z) : Rd w A n c (dg z.natAbs) := h.1
theorem law_make_long (s : Bool) (A : Option Addr) (n c : Nat) (w : World) (hn : ¬ n ≤ 30) :
    Calls Try.prog 3 #[.agg #[.bool s, .slice A n c]] w fun e w' => e = .returned (.bool true) ∧ Below w.heap.size w w' := by
  have d1 : decide ((30 : Int) < (n : Int)) = true := by simp; omega
  clear hn
  have bx_1 : Sb ((w).alloc (EI s A n c)) (w.heap.size) (.bool s) (.slice A n c) := by have h_ := Sb.new (w) (.bool s) (.slice A n c); exact h_
  have F1 := (Below.refl w.heap.size w).alloc (Nat.le_refl _) (EI s A n c)
  go_enter Try.func3, Try.ntmps3
  go_wp2_with fail
  refine (awake_int _).mono ?_
  rintro e w2 ⟨rfl, b2⟩
  have bx_2 := bx_1.below b2 bx_1.lt
  have F2 := below_then F1 (Nat.le_refl _) b2
  have bx_u2 := bx_2.cell0
  have bx_v2 := bx_2.cell1
  go_wp2
  go_ret
  exact ⟨rfl, F2⟩
set_option maxHeartbeats 1000000 in
theorem law_make (s : Bool) (A : Option Addr) (n c : Nat) (xs : List Nat) (w : World) (hx : Rd w A n c xs) (hn : n ≤ 30) :
    Calls Try.prog 3 #[.agg #[.bool s, .slice A n c]] w fun e w' => e = .returned (.bool true) ∧ Below w.heap.size w w' := by
  have d1 : decide ((30 : Int) < (n : Int)) = false := by simp; omega
  obtain ⟨z, hz⟩ : ∃ z, iv s xs = z := ⟨_, rfl⟩
  have h : Iz w s A n c z := ⟨xs, hx, hz⟩
  have lz := pw_lt (k := 60) (h.abs hn) (by decide)
  have hn3 : n ≤ 1048576 := by omega
  obtain ⟨b, hb⟩ : ∃ b, (decide (tlen xs = n) && (!s || decide (0 < n))) = b := ⟨_, rfl⟩
  obtain ⟨r, hr⟩ : ∃ r, sz z = r := ⟨_, rfl⟩
  have HB := hide hb
  have HR := hide hr
  clear hb hr hn hz
  have h_1 := h.alloc (EI s A n c)
  have hx_1 := hx.alloc (EI s A n c)
  have bx_1 : Sb ((w).alloc (EI s A n c)) (w.heap.size) (.bool s) (.slice A n c) := by have h_ := Sb.new (w) (.bool s) (.slice A n c); exact h_
  have F1 := (Below.refl w.heap.size w).alloc (Nat.le_refl _) (EI s A n c)
  go_enter Try.func3, Try.ntmps3
  go_wp2_with fail
  refine (awake_int _).mono ?_
  rintro e w2 ⟨rfl, b2⟩
  have h_2 := h_1.below b2
  have hx_2 := hx_1.below b2
  have bx_2 := bx_1.below b2 bx_1.lt
  have F2 := below_then F1 (Nat.le_refl _) b2
  have bx_u2 := bx_2.cell0
  have bx_v2 := bx_2.cell1
  go_wp2_with fail
  refine (make_int _ _ _ _ z _ h_2 hn3).mono ?_
  rintro e w3 ⟨s3, A3, n3, c3, rfl, m, b3⟩
  have h_3 := h_2.below b3
  have hx_3 := hx_2.below b3
  have bx_3 := bx_2.below b3 bx_2.lt
  have F3 := below_then F2 (Nat.le_refl _) b3
  have bx_u3 := bx_3.cell0
  have bx_v3 := bx_3.cell1
  have h_4 := h_3.alloc (EI s3 A3 n3 c3)
  have hx_4 := hx_3.alloc (EI s3 A3 n3 c3)
  have m_4 := m.alloc (EI s3 A3 n3 c3)
  have bx_4 := bx_3.alloc (EI s3 A3 n3 c3)
  have bm_4 : Sb ((w3).alloc (EI s3 A3 n3 c3)) (w3.heap.size) (.bool s3) (.slice A3 n3 c3) := by have h_ := Sb.new (w3) (.bool s3) (.slice A3 n3 c3); exact h_
  have F4 := F3.alloc F3.size (EI s3 A3 n3 c3)
  go_wp2_with fail
  have h_5 := h_4.drew
  have hx_5 := hx_4.drew
  have m_5 := m_4.drew
  have bx_5 := bx_4.drew
  have bm_5 := bm_4.drew
  have F5 := F4.drew
  go_region_held3 (fun w' => w'.cell? ⟨w.heap.size, 0, none⟩ = some (.bool s) ∧ w'.cell? ⟨w.heap.size, 1, none⟩ = some (.slice A n c) ∧ w'.cell? ⟨w3.heap.size, 0, none⟩ = some (.bool s3) ∧ w'.cell? ⟨w3.heap.size, 1, none⟩ = some (.slice A3 n3 c3))
    (first
      | exact ⟨bx_12.cell0, bx_12.cell1, bm_12.cell0, bm_12.cell1⟩
      | exact ⟨bx_11.cell0, bx_11.cell1, bm_11.cell0, bm_11.cell1⟩
      | exact ⟨bx_10.cell0, bx_10.cell1, bm_10.cell0, bm_10.cell1⟩
      | exact ⟨bx_9.cell0, bx_9.cell1, bm_9.cell0, bm_9.cell1⟩
      | exact ⟨bx_8.cell0, bx_8.cell1, bm_8.cell0, bm_8.cell1⟩
      | exact ⟨bx_7.cell0, bx_7.cell1, bm_7.cell0, bm_7.cell1⟩
      | exact ⟨bx_6.cell0, bx_6.cell1, bm_6.cell0, bm_6.cell1⟩
      | exact ⟨bx_5.cell0, bx_5.cell1, bm_5.cell0, bm_5.cell1⟩
      | fail)
    (first
      | (go_at_call 13; (with_reducible refine (rmake_int _ _ _ _ z _ h_5 hn3).mono ?_); rintro e w6 ⟨s6, A6, n6, c6, rfl, k, b6⟩; have h_6 := h_5.below b6; have hx_6 := hx_5.below b6; have m_6 := m_5.below b6; have bx_6 := bx_5.below b6 bx_5.lt; have bm_6 := bm_5.below b6 bm_5.lt; have F6 := below_then F5 (Nat.le_refl _) b6)
      | (go_at_call 12; (with_reducible refine (same_int _ _ _ _ _ _ _ _ _ _ m_6 k (m_6.l3 lz)).mono ?_); rintro e w7 ⟨rfl, b7⟩; have h_7 := h_6.below b7; have hx_7 := hx_6.below b7; have m_7 := m_6.below b7; have k_7 := k.below b7; have bx_7 := bx_6.below b7 bx_6.lt; have bm_7 := bm_6.below b7 bm_6.lt; have F7 := below_then F6 (Nat.le_refl _) b7)
      | (go_at_call 14; (with_reducible refine (valid_int _ _ _ _ _ _ _ HB.out hx_7 hn3).mono ?_); rintro e w8 ⟨rfl, b8⟩; have h_8 := h_7.below b8; have hx_8 := hx_7.below b8; have m_8 := m_7.below b8; have k_8 := k_7.below b8; have bx_8 := bx_7.below b8 bx_7.lt; have bm_8 := bm_7.below b8 bm_7.lt; have F8 := below_then F7 (Nat.le_refl _) b8)
      | (go_at_call 15; (with_reducible refine (rvalid_int _ _ _ _ _ _ _ HB.out hx_8 hn3).mono ?_); rintro e w9 ⟨rfl, b9⟩; have h_9 := h_8.below b9; have hx_9 := hx_8.below b9; have m_9 := m_8.below b9; have k_9 := k_8.below b9; have bx_9 := bx_8.below b9 bx_8.lt; have bm_9 := bm_8.below b9 bm_8.lt; have F9 := below_then F8 (Nat.le_refl _) b9)
      | (go_at_call 14; (with_reducible refine (valid_int _ _ _ _ _ _ _ m_9.valid m_9.rd (m_9.l3 lz)).mono ?_); rintro e w10 ⟨rfl, b10⟩; have h_10 := h_9.below b10; have hx_10 := hx_9.below b10; have m_10 := m_9.below b10; have k_10 := k_9.below b10; have bx_10 := bx_9.below b10 bx_9.lt; have bm_10 := bm_9.below b10 bm_9.lt; have F10 := below_then F9 (Nat.le_refl _) b10)
      | (go_at_call 16; (with_reducible refine (sign_int _ _ _ _ _ _ _ HR.out h_10 hn3).mono ?_); rintro e w11 ⟨rfl, b11⟩; have h_11 := h_10.below b11; have hx_11 := hx_10.below b11; have m_11 := m_10.below b11; have k_11 := k_10.below b11; have bx_11 := bx_10.below b11 bx_10.lt; have bm_11 := bm_10.below b11 bm_10.lt; have F11 := below_then F10 (Nat.le_refl _) b11)
      | (go_at_call 17; (with_reducible refine (rsign_int _ _ _ _ _ _ _ HR.out h_11 hn3).mono ?_); rintro e w12 ⟨rfl, b12⟩; have h_12 := h_11.below b12; have hx_12 := hx_11.below b12; have m_12 := m_11.below b12; have k_12 := k_11.below b12; have bx_12 := bx_11.below b12 bx_11.lt; have bm_12 := bm_11.below b12 bm_11.lt; have F12 := below_then F11 (Nat.le_refl _) b12)
      | fail)
  have bx_u12 := bx_12.cell0
  have bx_v12 := bx_12.cell1
  have bm_u12 := bm_12.cell0
  have bm_v12 := bm_12.cell1
  go_wp2
  go_ret
  exact ⟨rfl, F12⟩
end Go.Proofs.Ytefcpcekoihgjaa
