/-
  The specification's Text.
-/
import Derived.Test.YtjpchbcenbjibaaDoorD3
namespace Go.Proofs.YtjpchbcenbjibaaDoor
open Go.RowKit
set_option linter.unusedVariables false
set_option linter.unusedSimpArgs false

theorem pw_ten (k : Nat) : pw k ≤ 10 ^ (10 * k) := by
  induction k with
  | zero => decide
  | succ k ih =>
    have e : pw (k + 1) = 4294967296 * pw k := rfl
    rw [e, show 10 * (k + 1) = 10 * k + 10 by omega, Nat.pow_add, show (10 : Nat) ^ 10 = 10000000000 by decide]
    omega
theorem dtx_pw {X k : Nat} (h : X < pw k) (hk : 1 ≤ k) : (dtx X).length ≤ 10 * k := dtx_len (Nat.lt_of_lt_of_le h (pw_ten k)) (by omega)
theorem dt_pw {X k : Nat} (h : X < pw k) : (dt X).length ≤ 10 * k := dt_len (Nat.lt_of_lt_of_le h (pw_ten k))
theorem txt_int {q : Rat} {X : Nat} {s : Bool} (hX : q.num.natAbs = X) (hs : s = decide (q.num < 0)) (h1 : q.den = 1) : txt q = (if s then [45] else []) ++ dtx X := by
  subst hX hs
  unfold txt
  rw [if_pos h1, List.append_nil]
  by_cases h0 : q.num < 0 <;> simp [h0]
theorem txt_frac {q : Rat} {X Y : Nat} {s : Bool} (hX : q.num.natAbs = X) (hs : s = decide (q.num < 0)) (hY : q.den = Y) (h1 : Y ≠ 1) : txt q = (if s then [45] else []) ++ (dtx X ++ 47 :: dtx Y) := by
  subst hX hs hY
  unfold txt
  rw [if_neg h1]
  by_cases h0 : q.num < 0 <;> simp [h0]
theorem rtext_neg_int (A : Option Addr) (n c : Nat) (B : Option Addr) (m d : Nat) (X K : Nat) (L : List UInt8) (w : World) (hx : Ny w A n c K X) (hm0 : m = 0) (hK : K ≤ 16384) (hK1 : 1 ≤ K) (hL : L = [45] ++ dtx X) :
    Calls Tryd.prog 10 #[.agg #[.bool true, .slice A n c, .slice B m d]] w (Asks w (.string (bs L))) := by
  have l1 : (dt X).length ≤ 1000000 := Nat.le_trans (dt_pw hx.lt) (by omega)
  have l2 : (dtx X).length ≤ 1000000 := Nat.le_trans (dtx_pw hx.lt hK1) (by omega)
  have z1 : ¬ (9223372036854775807 < 1 + (bs (dtx X)).size) := by rw [bs_size]; omega
  subst hm0
  have HL := hide (show (⟨#[45]⟩ : ByteArray) ++ bs (dtx X) = bs L by rw [hL, show (⟨#[45]⟩ : ByteArray) = bs [45] from rfl, bs_append])
  clear hL
  have hx_1 := hx.alloc (EQ true A n c B 0 d)
  have bx_1 : Sq ((w).alloc (EQ true A n c B 0 d)) (w.heap.size) (.bool true) (.slice A n c) (.slice B 0 d) := by have h_ := Sq.new (w) (.bool true) (.slice A n c) (.slice B 0 d); exact h_
  have F1 := (Below.refl w.heap.size w).alloc (Nat.le_refl _) (EQ true A n c B 0 d)
  go_enter Tryd.func10, Tryd.ntmps10
  go_wp2_with fail
  refine (digits_calls _ _ _ K X _ hx_1 hK l1).mono ?_
  rintro e w2 ⟨rfl, b2⟩
  have hx_2 := hx_1.below b2
  have bx_2 := bx_1.below b2 bx_1.lt
  have F2 := below_then F1 (Nat.le_refl _) b2
  have bx_u2 := bx_2.cell0
  have bx_v2 := bx_2.cell1
  have bx_w2 := bx_2.cell2
  go_wp2
  go_ret
  exact ⟨by rw [← HL.out]; rfl, F2⟩
theorem rtext_neg_frac (A : Option Addr) (n c : Nat) (B : Option Addr) (m d : Nat) (X Y K : Nat) (L : List UInt8) (w : World) (hx : Ny w A n c K X) (hy : Ny w B m d K Y) (hm0 : m ≠ 0) (hK : K ≤ 16384) (hK1 : 1 ≤ K) (hL : L = [45] ++ (dtx X ++ 47 :: dtx Y)) :
    Calls Tryd.prog 10 #[.agg #[.bool true, .slice A n c, .slice B m d]] w (Asks w (.string (bs L))) := by
  have l1 : (dt X).length ≤ 1000000 := Nat.le_trans (dt_pw hx.lt) (by omega)
  have l2 : (dtx X).length ≤ 1000000 := Nat.le_trans (dtx_pw hx.lt hK1) (by omega)
  have z1 : ¬ (9223372036854775807 < 1 + (bs (dtx X)).size) := by rw [bs_size]; omega
  have l3 : (dt Y).length ≤ 1000000 := Nat.le_trans (dt_pw hy.lt) (by omega)
  have l4 : (dtx Y).length ≤ 1000000 := Nat.le_trans (dtx_pw hy.lt hK1) (by omega)
  have z2 : ¬ (9223372036854775807 < 1 + (bs (dtx Y)).size) := by rw [bs_size]; omega
  have z3 : ¬ (9223372036854775807 < 1 + (bs (dtx X)).size + (1 + (bs (dtx Y)).size)) := by rw [bs_size, bs_size]; omega
  have m1 : 0 < m := by omega
  have HL := hide (show (⟨#[45]⟩ : ByteArray) ++ bs (dtx X) ++ ((⟨#[47]⟩ : ByteArray) ++ bs (dtx Y)) = bs L by rw [hL, show (⟨#[47]⟩ : ByteArray) = bs [47] from rfl, show (⟨#[45]⟩ : ByteArray) = bs [45] from rfl]; simp only [bs_append]; simp)
  clear hL
  have hx_1 := hx.alloc (EQ true A n c B m d)
  have hy_1 := hy.alloc (EQ true A n c B m d)
  have bx_1 : Sq ((w).alloc (EQ true A n c B m d)) (w.heap.size) (.bool true) (.slice A n c) (.slice B m d) := by have h_ := Sq.new (w) (.bool true) (.slice A n c) (.slice B m d); exact h_
  have F1 := (Below.refl w.heap.size w).alloc (Nat.le_refl _) (EQ true A n c B m d)
  go_enter Tryd.func10, Tryd.ntmps10
  go_wp2_with fail
  refine (digits_calls _ _ _ K X _ hx_1 hK l1).mono ?_
  rintro e w2 ⟨rfl, b2⟩
  have hx_2 := hx_1.below b2
  have hy_2 := hy_1.below b2
  have bx_2 := bx_1.below b2 bx_1.lt
  have F2 := below_then F1 (Nat.le_refl _) b2
  have bx_u2 := bx_2.cell0
  have bx_v2 := bx_2.cell1
  have bx_w2 := bx_2.cell2
  go_wp2_with fail
  refine (digits_calls _ _ _ K Y _ hy_2 hK l3).mono ?_
  rintro e w3 ⟨rfl, b3⟩
  have hx_3 := hx_2.below b3
  have hy_3 := hy_2.below b3
  have bx_3 := bx_2.below b3 bx_2.lt
  have F3 := below_then F2 (Nat.le_refl _) b3
  have bx_u3 := bx_3.cell0
  have bx_v3 := bx_3.cell1
  have bx_w3 := bx_3.cell2
  go_wp2
  go_ret
  exact ⟨by rw [← HL.out]; rfl, F3⟩
theorem rtext_pos_int (A : Option Addr) (n c : Nat) (B : Option Addr) (m d : Nat) (X K : Nat) (L : List UInt8) (w : World) (hx : Ny w A n c K X) (hm0 : m = 0) (hK : K ≤ 16384) (hK1 : 1 ≤ K) (hL : L = dtx X) :
    Calls Tryd.prog 10 #[.agg #[.bool false, .slice A n c, .slice B m d]] w (Asks w (.string (bs L))) := by
  have l1 : (dt X).length ≤ 1000000 := Nat.le_trans (dt_pw hx.lt) (by omega)
  have l2 : (dtx X).length ≤ 1000000 := Nat.le_trans (dtx_pw hx.lt hK1) (by omega)
  have z1 : ¬ (9223372036854775807 < 1 + (bs (dtx X)).size) := by rw [bs_size]; omega
  subst hm0
  subst hL
  have hx_1 := hx.alloc (EQ false A n c B 0 d)
  have bx_1 : Sq ((w).alloc (EQ false A n c B 0 d)) (w.heap.size) (.bool false) (.slice A n c) (.slice B 0 d) := by have h_ := Sq.new (w) (.bool false) (.slice A n c) (.slice B 0 d); exact h_
  have F1 := (Below.refl w.heap.size w).alloc (Nat.le_refl _) (EQ false A n c B 0 d)
  go_enter Tryd.func10, Tryd.ntmps10
  go_wp2_with fail
  refine (digits_calls _ _ _ K X _ hx_1 hK l1).mono ?_
  rintro e w2 ⟨rfl, b2⟩
  have hx_2 := hx_1.below b2
  have bx_2 := bx_1.below b2 bx_1.lt
  have F2 := below_then F1 (Nat.le_refl _) b2
  have bx_u2 := bx_2.cell0
  have bx_v2 := bx_2.cell1
  have bx_w2 := bx_2.cell2
  go_wp2
  go_ret
  exact ⟨rfl, F2⟩
theorem rtext_pos_frac (A : Option Addr) (n c : Nat) (B : Option Addr) (m d : Nat) (X Y K : Nat) (L : List UInt8) (w : World) (hx : Ny w A n c K X) (hy : Ny w B m d K Y) (hm0 : m ≠ 0) (hK : K ≤ 16384) (hK1 : 1 ≤ K) (hL : L = (dtx X ++ 47 :: dtx Y)) :
    Calls Tryd.prog 10 #[.agg #[.bool false, .slice A n c, .slice B m d]] w (Asks w (.string (bs L))) := by
  have l1 : (dt X).length ≤ 1000000 := Nat.le_trans (dt_pw hx.lt) (by omega)
  have l2 : (dtx X).length ≤ 1000000 := Nat.le_trans (dtx_pw hx.lt hK1) (by omega)
  have z1 : ¬ (9223372036854775807 < 1 + (bs (dtx X)).size) := by rw [bs_size]; omega
  have l3 : (dt Y).length ≤ 1000000 := Nat.le_trans (dt_pw hy.lt) (by omega)
  have l4 : (dtx Y).length ≤ 1000000 := Nat.le_trans (dtx_pw hy.lt hK1) (by omega)
  have z2 : ¬ (9223372036854775807 < 1 + (bs (dtx Y)).size) := by rw [bs_size]; omega
  have z3 : ¬ (9223372036854775807 < (bs (dtx X)).size + (1 + (bs (dtx Y)).size)) := by rw [bs_size, bs_size]; omega
  have m1 : 0 < m := by omega
  have HL := hide (show bs (dtx X) ++ ((⟨#[47]⟩ : ByteArray) ++ bs (dtx Y)) = bs L by rw [hL, show (⟨#[47]⟩ : ByteArray) = bs [47] from rfl]; simp only [bs_append]; rfl)
  clear hL
  have hx_1 := hx.alloc (EQ false A n c B m d)
  have hy_1 := hy.alloc (EQ false A n c B m d)
  have bx_1 : Sq ((w).alloc (EQ false A n c B m d)) (w.heap.size) (.bool false) (.slice A n c) (.slice B m d) := by have h_ := Sq.new (w) (.bool false) (.slice A n c) (.slice B m d); exact h_
  have F1 := (Below.refl w.heap.size w).alloc (Nat.le_refl _) (EQ false A n c B m d)
  go_enter Tryd.func10, Tryd.ntmps10
  go_wp2_with fail
  refine (digits_calls _ _ _ K X _ hx_1 hK l1).mono ?_
  rintro e w2 ⟨rfl, b2⟩
  have hx_2 := hx_1.below b2
  have hy_2 := hy_1.below b2
  have bx_2 := bx_1.below b2 bx_1.lt
  have F2 := below_then F1 (Nat.le_refl _) b2
  have bx_u2 := bx_2.cell0
  have bx_v2 := bx_2.cell1
  have bx_w2 := bx_2.cell2
  go_wp2_with fail
  refine (digits_calls _ _ _ K Y _ hy_2 hK l3).mono ?_
  rintro e w3 ⟨rfl, b3⟩
  have hx_3 := hx_2.below b3
  have hy_3 := hy_2.below b3
  have bx_3 := bx_2.below b3 bx_2.lt
  have F3 := below_then F2 (Nat.le_refl _) b3
  have bx_u3 := bx_3.cell0
  have bx_v3 := bx_3.cell1
  have bx_w3 := bx_3.cell2
  go_wp2
  go_ret
  exact ⟨by rw [← HL.out]; rfl, F3⟩
theorem rtext_q (s : Bool) (A : Option Addr) (n c : Nat) (B : Option Addr) (m d : Nat) (q : Rat) (K : Nat) (w : World) (h : Cq w s A n c B m d q) (hs : Qs K q) (hK : K ≤ 16384) (hK1 : 1 ≤ K) :
    Calls Tryd.prog 10 #[.agg #[.bool s, .slice A n c, .slice B m d]] w (Asks w (.string (bs (txt q)))) := by
  obtain ⟨hx, hy, he⟩ := h
  have hx1 : Ny w A n c K q.num.natAbs := hx.ny hs.1
  by_cases h1 : q.den = 1
  · have hm : m = 0 := by have := hy.len; rw [qd, if_pos h1] at this; exact this.symm
    have ht := txt_int rfl he h1
    cases s
    · exact rtext_pos_int A n c B m d _ K _ w hx1 hm hK hK1 ht
    · exact rtext_neg_int A n c B m d _ K _ w hx1 hm hK hK1 ht
  · have hy1 : Ny w B m d K q.den := by rw [qd, if_neg h1] at hy; exact hy.ny hs.2
    have hm : m ≠ 0 := fun e => q.den_nz ((ny_pos hy1).1 e)
    have ht := txt_frac rfl he rfl h1
    cases s
    · exact rtext_pos_frac A n c B m d _ _ K _ w hx1 hy1 hm hK hK1 ht
    · exact rtext_neg_frac A n c B m d _ _ K _ w hx1 hy1 hm hK hK1 ht
end Go.Proofs.YtjpchbcenbjibaaDoor
