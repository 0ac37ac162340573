/-
  The walk of IntegerInt.
-/
import Derived.Test.YtefcpcekoihgjaaNegLaw
import Derived.Deep.RegionHeld3
namespace Go.Proofs.Ytefcpcekoihgjaa
open Go.RowKit
set_option linter.unusedVariables false
set_option linter.unusedSimpArgs false

theorem law_int_long (k : Int) (s : Bool) (A : Option Addr) (n c : Nat) (w : World) (hn : ¬ n ≤ 30) :
    Calls Try.prog 4 #[.int .i64 k, .agg #[.bool s, .slice A n c]] w fun e w' => e = .returned (.bool true) ∧ Below w.heap.size w w' := by
  have d1 : decide ((30 : Int) < (n : Int)) = true := by simp; omega
  clear hn
  have bx_1 : Sb ((w).alloc (EI s A n c)) (w.heap.size) (.bool s) (.slice A n c) := by have h_ := Sb.new (w) (.bool s) (.slice A n c); exact h_
  have F1 := (Below.refl w.heap.size w).alloc (Nat.le_refl _) (EI s A n c)
  go_enter Try.func4, Try.ntmps4
  go_wp2_with fail
  refine (awake_int _).mono ?_
  rintro e w2 ⟨rfl, b2⟩
  have bx_2 := bx_1.below b2 bx_1.lt
  have F2 := below_then F1 (Nat.le_refl _) b2
  have bx_u2 := bx_2.cell0
  have bx_v2 := bx_2.cell1
  go_wp2
  go_ret
  exact ⟨rfl, F2⟩
set_option maxHeartbeats 1000000 in
theorem law_int (k : Int) (s : Bool) (A : Option Addr) (n c : Nat) (z : Int) (w : World) (k1 : -9223372036854775808 ≤ k) (k2 : k ≤ 9223372036854775807) (h : Iz w s A n c z) (hn : n ≤ 30) :
    Calls Try.prog 4 #[.int .i64 k, .agg #[.bool s, .slice A n c]] w fun e w' => e = .returned (.bool true) ∧ Below w.heap.size w w' := by
  have d1 : decide ((30 : Int) < (n : Int)) = false := by simp; omega
  have hn3 : n ≤ 1048576 := by omega
  have lk : k.natAbs < pw 60 := pw_lt (j := 2) (by have e : pw 2 = 18446744073709551616 := by decide
                                                   omega) (by decide)
  obtain ⟨⟨v, b⟩, hv⟩ : ∃ p, i64Of z = p := ⟨_, rfl⟩
  have HV := hide hv
  have HK := hide (i64_in k1 k2)
  clear hv hn
  have h_1 := h.alloc (EI s A n c)
  have bx_1 : Sb ((w).alloc (EI s A n c)) (w.heap.size) (.bool s) (.slice A n c) := by have h_ := Sb.new (w) (.bool s) (.slice A n c); exact h_
  have F1 := (Below.refl w.heap.size w).alloc (Nat.le_refl _) (EI s A n c)
  go_enter Try.func4, Try.ntmps4
  go_wp2_with fail
  refine (awake_int _).mono ?_
  rintro e w2 ⟨rfl, b2⟩
  have h_2 := h_1.below b2
  have bx_2 := bx_1.below b2 bx_1.lt
  have F2 := below_then F1 (Nat.le_refl _) b2
  have bx_u2 := bx_2.cell0
  have bx_v2 := bx_2.cell1
  go_wp2_with fail
  refine (ofint_int _ _ k1 k2).mono ?_
  rintro e w3 ⟨s3, A3, n3, c3, rfl, o1, b3⟩
  have h_3 := h_2.below b3
  have bx_3 := bx_2.below b3 bx_2.lt
  have F3 := below_then F2 (Nat.le_refl _) b3
  have bx_u3 := bx_3.cell0
  have bx_v3 := bx_3.cell1
  go_wp2_with fail
  refine (int_int _ _ _ _ _ _ _ _ HK.out o1.iz (o1.l3 lk)).mono ?_
  rintro e w4 ⟨rfl, b4⟩
  have h_4 := h_3.below b4
  have o1_4 := o1.below b4
  have bx_4 := bx_3.below b4 bx_3.lt
  have F4 := below_then F3 (Nat.le_refl _) b4
  have bx_u4 := bx_4.cell0
  have bx_v4 := bx_4.cell1
  go_wp2_with fail
  refine (int_int _ _ _ _ _ _ _ _ HV.out h_4 hn3).mono ?_
  rintro e w5 ⟨rfl, b5⟩
  have h_5 := h_4.below b5
  have bx_5 := bx_4.below b5 bx_4.lt
  have F5 := below_then F4 (Nat.le_refl _) b5
  have bx_u5 := bx_5.cell0
  have bx_v5 := bx_5.cell1
  go_wp2_with fail
  refine (rint_int _ _ _ _ _ _ _ _ HV.out h_5 hn3).mono ?_
  rintro e w6 ⟨rfl, b6⟩
  have h_6 := h_5.below b6
  have bx_6 := bx_5.below b6 bx_5.lt
  have F6 := below_then F5 (Nat.le_refl _) b6
  have bx_u6 := bx_6.cell0
  have bx_v6 := bx_6.cell1
  go_wp2_with fail
  refine (ofint_int _ _ k1 k2).mono ?_
  rintro e w7 ⟨s7, A7, n7, c7, rfl, o2, b7⟩
  have h_7 := h_6.below b7
  have bx_7 := bx_6.below b7 bx_6.lt
  have F7 := below_then F6 (Nat.le_refl _) b7
  have bx_u7 := bx_7.cell0
  have bx_v7 := bx_7.cell1
  go_wp2_with fail
  refine (rofint_int _ _ k1 k2).mono ?_
  rintro e w8 ⟨s8, A8, n8, c8, rfl, o3, b8⟩
  have h_8 := h_7.below b8
  have o2_8 := o2.below b8
  have bx_8 := bx_7.below b8 bx_7.lt
  have F8 := below_then F7 (Nat.le_refl _) b8
  have bx_u8 := bx_8.cell0
  have bx_v8 := bx_8.cell1
  go_wp2_with fail
  refine (same_int _ _ _ _ _ _ _ _ _ _ o2_8 o3 (o2_8.l3 lk)).mono ?_
  rintro e w9 ⟨rfl, b9⟩
  have h_9 := h_8.below b9
  have o2_9 := o2_8.below b9
  have o3_9 := o3.below b9
  have bx_9 := bx_8.below b9 bx_8.lt
  have F9 := below_then F8 (Nat.le_refl _) b9
  have bx_u9 := bx_9.cell0
  have bx_v9 := bx_9.cell1
  go_wp2
  go_ret
  exact ⟨rfl, F9⟩
end Go.Proofs.Ytefcpcekoihgjaa
