/-
  The program's Add, Sub, Min, Max.
-/
import Derived.Test.YtnddhohjfjlaiaaGreatDoorQ3
import Derived.Deep.DeepCutAuto
import Derived.Deep.CutBlock
namespace Go.Proofs.YtnddhohjfjlaiaaGreatDoor
open Go.RowKit
set_option linter.unusedVariables false
set_option linter.unusedSimpArgs false

theorem Iq.storQ9 {w : World} {g : Nat} {s0 : Bool} {A0 B0 : Option Addr} {n0 c0 m0 d0 : Nat} {s : Bool} {A B : Option Addr} {n c m d : Nat} {q : Rat} (h : Iq w s A n c B m d q) (hs : Sq w g (.bool s0) (.slice A0 n0 c0) (.slice B0 m0 d0)) (u0 u1 u2 : Value) :
    Iq (((w.setCell ⟨g, 0, none⟩ u0).setCell ⟨g, 1, none⟩ u1).setCell ⟨g, 2, none⟩ u2) s A n c B m d q := by
  obtain ⟨xs, ys, h1, h2, h3⟩ := h
  exact ⟨xs, ys, h1.storQ hs _ _ _, h2.storQ hs _ _ _, h3⟩
theorem Nz.storI {w : World} {A : Option Addr} {n c k X : Nat} (h : Nz w A n c k X) {g : Nat} {s0 : Bool} {B : Option Addr} {l d : Nat} (hs : Sb w g (.bool s0) (.slice B l d)) (u0 u1 : Value) : Nz ((w.setCell ⟨g, 0, none⟩ u0).setCell ⟨g, 1, none⟩ u1) A n c k X := ⟨h.1, h.2.elim fun xs hx => ⟨xs, hx.1.storI hs u0 u1, hx.2⟩⟩
theorem Cz.storI {w : World} {s : Bool} {A : Option Addr} {n c : Nat} {z : Int} (h : Cz w s A n c z) {g : Nat} {s0 : Bool} {B : Option Addr} {l d : Nat} (hs : Sb w g (.bool s0) (.slice B l d)) (u0 u1 : Value) : Cz ((w.setCell ⟨g, 0, none⟩ u0).setCell ⟨g, 1, none⟩ u1) s A n c z := ⟨h.1.storI hs u0 u1, h.2⟩
theorem min_q (s t : Bool) (A B A' B' : Option Addr) (n c m d n' c' m' d' : Nat) (p q x : Rat) (w : World) (hv : (if p ≤ q then p else q) = x) (h : Iq w s A n c B m d p) (k : Iq w t A' n' c' B' m' d' q) (hn : n ≤ 4000) (hm : m ≤ 4000) (hn' : n' ≤ 4000) (hm' : m' ≤ 4000) :
    Calls Tryz.prog 25 #[.agg #[.bool s, .slice A n c, .slice B m d], .agg #[.bool t, .slice A' n' c', .slice B' m' d']] w (GQ w x) := by
  obtain ⟨r, hr⟩ : ∃ r, sz (q - p).num = r := ⟨_, rfl⟩
  have n1 : n ≤ 16384 := by omega
  have n2 : m ≤ 16384 := by omega
  have n3 : n' ≤ 16384 := by omega
  have n4 : m' ≤ 16384 := by omega
  have HR := hide hr
  have hc : 0 ≤ r ↔ p ≤ q := by
    rw [← hr]
    rw [← cmp_le (p := p) (q := q), sz_swap p q]; omega
  clear hr
  by_cases h0 : p ≤ q
  · rw [if_pos h0] at hv
    subst hv
    have d1 : decide (r < 0) = false := decide_eq_false (by have := hc.2 h0; omega)
    clear hc h0
    have h_1 := h.alloc (EQ s A n c B m d)
    have k_1 := k.alloc (EQ s A n c B m d)
    have ba_1 : Sq ((w).alloc (EQ s A n c B m d)) (w.heap.size) (.bool s) (.slice A n c) (.slice B m d) := by have h_ := Sq.new (w) (.bool s) (.slice A n c) (.slice B m d); exact h_
    have F1 := (Below.refl w.heap.size w).alloc (Nat.le_refl _) (EQ s A n c B m d)
    have h_2 := h_1.alloc (EQ t A' n' c' B' m' d')
    have k_2 := k_1.alloc (EQ t A' n' c' B' m' d')
    have ba_2 := ba_1.alloc (EQ t A' n' c' B' m' d')
    have bb_2 : Sq (((w).alloc (EQ s A n c B m d)).alloc (EQ t A' n' c' B' m' d')) (w.heap.size + 1) (.bool t) (.slice A' n' c') (.slice B' m' d') := by have h_ := Sq.new ((w).alloc (EQ s A n c B m d)) (.bool t) (.slice A' n' c') (.slice B' m' d'); simp only [World.size_alloc] at h_; exact h_
    have F2 := F1.alloc F1.size (EQ t A' n' c' B' m' d')
    have h_3 := h_2.alloc EQ0
    have k_3 := k_2.alloc EQ0
    have ba_3 := ba_2.alloc EQ0
    have bb_3 := bb_2.alloc EQ0
    have br_3 : Sq ((((w).alloc (EQ s A n c B m d)).alloc (EQ t A' n' c' B' m' d')).alloc EQ0) (w.heap.size + 2) (.bool false) (.slice none 0 0) (.slice none 0 0) := by have h_ := Sq.new (((w).alloc (EQ s A n c B m d)).alloc (EQ t A' n' c' B' m' d')) (.bool false) (.slice none 0 0) (.slice none 0 0); simp only [World.size_alloc] at h_; exact h_
    have F3 := F2.alloc F2.size EQ0
    go_enter Tryz.func25, Tryz.ntmps25
    go_wp2_with fail
    refine (cmp_q _ _ _ _ _ _ _ _ _ _ _ _ _ _ _ _ r _ HR.out k_3 h_3 hn' hm' hn hm).mono ?_
    rintro e w4 ⟨rfl, b4⟩
    have h_4 := h_3.below b4
    have k_4 := k_3.below b4
    have ba_4 := ba_3.below b4 ba_3.lt
    have bb_4 := bb_3.below b4 bb_3.lt
    have br_4 := br_3.below b4 br_3.lt
    have F4 := below_then F3 (Nat.le_refl _) b4
    have ba_u4 := ba_4.cell0
    have ba_v4 := ba_4.cell1
    have ba_w4 := ba_4.cell2
    have bb_u4 := bb_4.cell0
    have bb_v4 := bb_4.cell1
    have bb_w4 := bb_4.cell2
    have br_u4 := br_4.cell0
    have br_v4 := br_4.cell1
    have br_w4 := br_4.cell2
    go_wp2_with fail
    refine (canon_q _ _ _ _ _ _ _ _ _ h_4 n1 n2).mono ?_
    rintro e w5 ⟨s5, A5, n5, c5, B5, m5, d5, rfl, y, b5⟩
    have h_5 := h_4.below b5
    have k_5 := k_4.below b5
    have ba_5 := ba_4.below b5 ba_4.lt
    have bb_5 := bb_4.below b5 bb_4.lt
    have br_5 := br_4.below b5 br_4.lt
    have F5 := below_then F4 (Nat.le_refl _) b5
    have ba_u5 := ba_5.cell0
    have ba_v5 := ba_5.cell1
    have ba_w5 := ba_5.cell2
    have bb_u5 := bb_5.cell0
    have bb_v5 := bb_5.cell1
    have bb_w5 := bb_5.cell2
    have br_u5 := br_5.cell0
    have br_v5 := br_5.cell1
    have br_w5 := br_5.cell2
    have br_f05 := br_5.frozen 0
    have br_f15 := br_5.frozen 1
    have br_f25 := br_5.frozen 2
    go_wp2_with fail
    refine bodyPost_ret (v := .agg #[.bool s5, .slice A5 n5 c5, .slice B5 m5 d5]) (by simp [results, Tryz.results25, go_sem, (br_5.set0 (.bool s5)).cell0, ((br_5.set0 (.bool s5)).set1 (.slice A5 n5 c5)).cell1, (((br_5.set0 (.bool s5)).set1 (.slice A5 n5 c5)).set2 (.slice B5 m5 d5)).cell2]) rfl (gq_end F5 (by omega) br_5 y)
  · rw [if_neg h0] at hv
    subst hv
    have d1 : decide (r < 0) = true := decide_eq_true (by have : ¬ 0 ≤ r := fun e => h0 (hc.1 e); omega)
    clear hc h0
    have h_1 := h.alloc (EQ s A n c B m d)
    have k_1 := k.alloc (EQ s A n c B m d)
    have ba_1 : Sq ((w).alloc (EQ s A n c B m d)) (w.heap.size) (.bool s) (.slice A n c) (.slice B m d) := by have h_ := Sq.new (w) (.bool s) (.slice A n c) (.slice B m d); exact h_
    have F1 := (Below.refl w.heap.size w).alloc (Nat.le_refl _) (EQ s A n c B m d)
    have h_2 := h_1.alloc (EQ t A' n' c' B' m' d')
    have k_2 := k_1.alloc (EQ t A' n' c' B' m' d')
    have ba_2 := ba_1.alloc (EQ t A' n' c' B' m' d')
    have bb_2 : Sq (((w).alloc (EQ s A n c B m d)).alloc (EQ t A' n' c' B' m' d')) (w.heap.size + 1) (.bool t) (.slice A' n' c') (.slice B' m' d') := by have h_ := Sq.new ((w).alloc (EQ s A n c B m d)) (.bool t) (.slice A' n' c') (.slice B' m' d'); simp only [World.size_alloc] at h_; exact h_
    have F2 := F1.alloc F1.size (EQ t A' n' c' B' m' d')
    have h_3 := h_2.alloc EQ0
    have k_3 := k_2.alloc EQ0
    have ba_3 := ba_2.alloc EQ0
    have bb_3 := bb_2.alloc EQ0
    have br_3 : Sq ((((w).alloc (EQ s A n c B m d)).alloc (EQ t A' n' c' B' m' d')).alloc EQ0) (w.heap.size + 2) (.bool false) (.slice none 0 0) (.slice none 0 0) := by have h_ := Sq.new (((w).alloc (EQ s A n c B m d)).alloc (EQ t A' n' c' B' m' d')) (.bool false) (.slice none 0 0) (.slice none 0 0); simp only [World.size_alloc] at h_; exact h_
    have F3 := F2.alloc F2.size EQ0
    go_enter Tryz.func25, Tryz.ntmps25
    go_wp2_with fail
    refine (cmp_q _ _ _ _ _ _ _ _ _ _ _ _ _ _ _ _ r _ HR.out k_3 h_3 hn' hm' hn hm).mono ?_
    rintro e w4 ⟨rfl, b4⟩
    have h_4 := h_3.below b4
    have k_4 := k_3.below b4
    have ba_4 := ba_3.below b4 ba_3.lt
    have bb_4 := bb_3.below b4 bb_3.lt
    have br_4 := br_3.below b4 br_3.lt
    have F4 := below_then F3 (Nat.le_refl _) b4
    have ba_u4 := ba_4.cell0
    have ba_v4 := ba_4.cell1
    have ba_w4 := ba_4.cell2
    have bb_u4 := bb_4.cell0
    have bb_v4 := bb_4.cell1
    have bb_w4 := bb_4.cell2
    have br_u4 := br_4.cell0
    have br_v4 := br_4.cell1
    have br_w4 := br_4.cell2
    have ba_f04 := ba_4.frozen 0
    have ba_f14 := ba_4.frozen 1
    have ba_f24 := ba_4.frozen 2
    have h_5 := h_4.storQ9 ba_4 (.bool t) (.slice A' n' c') (.slice B' m' d')
    have k_5 := k_4.storQ9 ba_4 (.bool t) (.slice A' n' c') (.slice B' m' d')
    have ba_5 := ba_4.stor (u0 := .bool t) (u1 := .slice A' n' c') (u2 := .slice B' m' d')
    have bb_5 := bb_4.past (g' := w.heap.size) (u0 := .bool t) (u1 := .slice A' n' c') (u2 := .slice B' m' d') (by omega)
    have br_5 := br_4.past (g' := w.heap.size) (u0 := .bool t) (u1 := .slice A' n' c') (u2 := .slice B' m' d') (by omega)
    have F5 := below_storQ (u0 := .bool t) (u1 := .slice A' n' c') (u2 := .slice B' m' d') F4 (show w.heap.size ≤ w.heap.size by omega)
    have ba_u5 := ba_5.cell0
    have ba_v5 := ba_5.cell1
    have ba_w5 := ba_5.cell2
    have bb_u5 := bb_5.cell0
    have bb_v5 := bb_5.cell1
    have bb_w5 := bb_5.cell2
    have br_u5 := br_5.cell0
    have br_v5 := br_5.cell1
    have br_w5 := br_5.cell2
    go_wp2_with fail
    refine (canon_q _ _ _ _ _ _ _ _ _ k_5 n3 n4).mono ?_
    rintro e w6 ⟨s6, A6, n6, c6, B6, m6, d6, rfl, y, b6⟩
    have h_6 := h_5.below b6
    have k_6 := k_5.below b6
    have ba_6 := ba_5.below b6 ba_5.lt
    have bb_6 := bb_5.below b6 bb_5.lt
    have br_6 := br_5.below b6 br_5.lt
    have F6 := below_then F5 (Nat.le_refl _) b6
    have ba_u6 := ba_6.cell0
    have ba_v6 := ba_6.cell1
    have ba_w6 := ba_6.cell2
    have bb_u6 := bb_6.cell0
    have bb_v6 := bb_6.cell1
    have bb_w6 := bb_6.cell2
    have br_u6 := br_6.cell0
    have br_v6 := br_6.cell1
    have br_w6 := br_6.cell2
    have br_f06 := br_6.frozen 0
    have br_f16 := br_6.frozen 1
    have br_f26 := br_6.frozen 2
    go_wp2_with fail
    refine bodyPost_ret (v := .agg #[.bool s6, .slice A6 n6 c6, .slice B6 m6 d6]) (by simp [results, Tryz.results25, go_sem, (br_6.set0 (.bool s6)).cell0, ((br_6.set0 (.bool s6)).set1 (.slice A6 n6 c6)).cell1, (((br_6.set0 (.bool s6)).set1 (.slice A6 n6 c6)).set2 (.slice B6 m6 d6)).cell2]) rfl (gq_end F6 (by omega) br_6 y)
theorem max_q (s t : Bool) (A B A' B' : Option Addr) (n c m d n' c' m' d' : Nat) (p q x : Rat) (w : World) (hv : (if q ≤ p then p else q) = x) (h : Iq w s A n c B m d p) (k : Iq w t A' n' c' B' m' d' q) (hn : n ≤ 4000) (hm : m ≤ 4000) (hn' : n' ≤ 4000) (hm' : m' ≤ 4000) :
    Calls Tryz.prog 24 #[.agg #[.bool s, .slice A n c, .slice B m d], .agg #[.bool t, .slice A' n' c', .slice B' m' d']] w (GQ w x) := by
  obtain ⟨r, hr⟩ : ∃ r, sz (q - p).num = r := ⟨_, rfl⟩
  have n1 : n ≤ 16384 := by omega
  have n2 : m ≤ 16384 := by omega
  have n3 : n' ≤ 16384 := by omega
  have n4 : m' ≤ 16384 := by omega
  have HR := hide hr
  have hc : r ≤ 0 ↔ q ≤ p := by
    rw [← hr]
    exact cmp_le
  clear hr
  by_cases h0 : q ≤ p
  · rw [if_pos h0] at hv
    subst hv
    have d1 : decide (0 < r) = false := decide_eq_false (by have := hc.2 h0; omega)
    clear hc h0
    have h_1 := h.alloc (EQ s A n c B m d)
    have k_1 := k.alloc (EQ s A n c B m d)
    have ba_1 : Sq ((w).alloc (EQ s A n c B m d)) (w.heap.size) (.bool s) (.slice A n c) (.slice B m d) := by have h_ := Sq.new (w) (.bool s) (.slice A n c) (.slice B m d); exact h_
    have F1 := (Below.refl w.heap.size w).alloc (Nat.le_refl _) (EQ s A n c B m d)
    have h_2 := h_1.alloc (EQ t A' n' c' B' m' d')
    have k_2 := k_1.alloc (EQ t A' n' c' B' m' d')
    have ba_2 := ba_1.alloc (EQ t A' n' c' B' m' d')
    have bb_2 : Sq (((w).alloc (EQ s A n c B m d)).alloc (EQ t A' n' c' B' m' d')) (w.heap.size + 1) (.bool t) (.slice A' n' c') (.slice B' m' d') := by have h_ := Sq.new ((w).alloc (EQ s A n c B m d)) (.bool t) (.slice A' n' c') (.slice B' m' d'); simp only [World.size_alloc] at h_; exact h_
    have F2 := F1.alloc F1.size (EQ t A' n' c' B' m' d')
    have h_3 := h_2.alloc EQ0
    have k_3 := k_2.alloc EQ0
    have ba_3 := ba_2.alloc EQ0
    have bb_3 := bb_2.alloc EQ0
    have br_3 : Sq ((((w).alloc (EQ s A n c B m d)).alloc (EQ t A' n' c' B' m' d')).alloc EQ0) (w.heap.size + 2) (.bool false) (.slice none 0 0) (.slice none 0 0) := by have h_ := Sq.new (((w).alloc (EQ s A n c B m d)).alloc (EQ t A' n' c' B' m' d')) (.bool false) (.slice none 0 0) (.slice none 0 0); simp only [World.size_alloc] at h_; exact h_
    have F3 := F2.alloc F2.size EQ0
    go_enter Tryz.func24, Tryz.ntmps24
    go_wp2_with fail
    refine (cmp_q _ _ _ _ _ _ _ _ _ _ _ _ _ _ _ _ r _ HR.out k_3 h_3 hn' hm' hn hm).mono ?_
    rintro e w4 ⟨rfl, b4⟩
    have h_4 := h_3.below b4
    have k_4 := k_3.below b4
    have ba_4 := ba_3.below b4 ba_3.lt
    have bb_4 := bb_3.below b4 bb_3.lt
    have br_4 := br_3.below b4 br_3.lt
    have F4 := below_then F3 (Nat.le_refl _) b4
    have ba_u4 := ba_4.cell0
    have ba_v4 := ba_4.cell1
    have ba_w4 := ba_4.cell2
    have bb_u4 := bb_4.cell0
    have bb_v4 := bb_4.cell1
    have bb_w4 := bb_4.cell2
    have br_u4 := br_4.cell0
    have br_v4 := br_4.cell1
    have br_w4 := br_4.cell2
    go_wp2_with fail
    refine (canon_q _ _ _ _ _ _ _ _ _ h_4 n1 n2).mono ?_
    rintro e w5 ⟨s5, A5, n5, c5, B5, m5, d5, rfl, y, b5⟩
    have h_5 := h_4.below b5
    have k_5 := k_4.below b5
    have ba_5 := ba_4.below b5 ba_4.lt
    have bb_5 := bb_4.below b5 bb_4.lt
    have br_5 := br_4.below b5 br_4.lt
    have F5 := below_then F4 (Nat.le_refl _) b5
    have ba_u5 := ba_5.cell0
    have ba_v5 := ba_5.cell1
    have ba_w5 := ba_5.cell2
    have bb_u5 := bb_5.cell0
    have bb_v5 := bb_5.cell1
    have bb_w5 := bb_5.cell2
    have br_u5 := br_5.cell0
    have br_v5 := br_5.cell1
    have br_w5 := br_5.cell2
    have br_f05 := br_5.frozen 0
    have br_f15 := br_5.frozen 1
    have br_f25 := br_5.frozen 2
    go_wp2_with fail
    refine bodyPost_ret (v := .agg #[.bool s5, .slice A5 n5 c5, .slice B5 m5 d5]) (by simp [results, Tryz.results24, go_sem, (br_5.set0 (.bool s5)).cell0, ((br_5.set0 (.bool s5)).set1 (.slice A5 n5 c5)).cell1, (((br_5.set0 (.bool s5)).set1 (.slice A5 n5 c5)).set2 (.slice B5 m5 d5)).cell2]) rfl (gq_end F5 (by omega) br_5 y)
  · rw [if_neg h0] at hv
    subst hv
    have d1 : decide (0 < r) = true := decide_eq_true (by have : ¬ r ≤ 0 := fun e => h0 (hc.1 e); omega)
    clear hc h0
    have h_1 := h.alloc (EQ s A n c B m d)
    have k_1 := k.alloc (EQ s A n c B m d)
    have ba_1 : Sq ((w).alloc (EQ s A n c B m d)) (w.heap.size) (.bool s) (.slice A n c) (.slice B m d) := by have h_ := Sq.new (w) (.bool s) (.slice A n c) (.slice B m d); exact h_
    have F1 := (Below.refl w.heap.size w).alloc (Nat.le_refl _) (EQ s A n c B m d)
    have h_2 := h_1.alloc (EQ t A' n' c' B' m' d')
    have k_2 := k_1.alloc (EQ t A' n' c' B' m' d')
    have ba_2 := ba_1.alloc (EQ t A' n' c' B' m' d')
    have bb_2 : Sq (((w).alloc (EQ s A n c B m d)).alloc (EQ t A' n' c' B' m' d')) (w.heap.size + 1) (.bool t) (.slice A' n' c') (.slice B' m' d') := by have h_ := Sq.new ((w).alloc (EQ s A n c B m d)) (.bool t) (.slice A' n' c') (.slice B' m' d'); simp only [World.size_alloc] at h_; exact h_
    have F2 := F1.alloc F1.size (EQ t A' n' c' B' m' d')
    have h_3 := h_2.alloc EQ0
    have k_3 := k_2.alloc EQ0
    have ba_3 := ba_2.alloc EQ0
    have bb_3 := bb_2.alloc EQ0
    have br_3 : Sq ((((w).alloc (EQ s A n c B m d)).alloc (EQ t A' n' c' B' m' d')).alloc EQ0) (w.heap.size + 2) (.bool false) (.slice none 0 0) (.slice none 0 0) := by have h_ := Sq.new (((w).alloc (EQ s A n c B m d)).alloc (EQ t A' n' c' B' m' d')) (.bool false) (.slice none 0 0) (.slice none 0 0); simp only [World.size_alloc] at h_; exact h_
    have F3 := F2.alloc F2.size EQ0
    go_enter Tryz.func24, Tryz.ntmps24
    go_wp2_with fail
    refine (cmp_q _ _ _ _ _ _ _ _ _ _ _ _ _ _ _ _ r _ HR.out k_3 h_3 hn' hm' hn hm).mono ?_
    rintro e w4 ⟨rfl, b4⟩
    have h_4 := h_3.below b4
    have k_4 := k_3.below b4
    have ba_4 := ba_3.below b4 ba_3.lt
    have bb_4 := bb_3.below b4 bb_3.lt
    have br_4 := br_3.below b4 br_3.lt
    have F4 := below_then F3 (Nat.le_refl _) b4
    have ba_u4 := ba_4.cell0
    have ba_v4 := ba_4.cell1
    have ba_w4 := ba_4.cell2
    have bb_u4 := bb_4.cell0
    have bb_v4 := bb_4.cell1
    have bb_w4 := bb_4.cell2
    have br_u4 := br_4.cell0
    have br_v4 := br_4.cell1
    have br_w4 := br_4.cell2
    have ba_f04 := ba_4.frozen 0
    have ba_f14 := ba_4.frozen 1
    have ba_f24 := ba_4.frozen 2
    have h_5 := h_4.storQ9 ba_4 (.bool t) (.slice A' n' c') (.slice B' m' d')
    have k_5 := k_4.storQ9 ba_4 (.bool t) (.slice A' n' c') (.slice B' m' d')
    have ba_5 := ba_4.stor (u0 := .bool t) (u1 := .slice A' n' c') (u2 := .slice B' m' d')
    have bb_5 := bb_4.past (g' := w.heap.size) (u0 := .bool t) (u1 := .slice A' n' c') (u2 := .slice B' m' d') (by omega)
    have br_5 := br_4.past (g' := w.heap.size) (u0 := .bool t) (u1 := .slice A' n' c') (u2 := .slice B' m' d') (by omega)
    have F5 := below_storQ (u0 := .bool t) (u1 := .slice A' n' c') (u2 := .slice B' m' d') F4 (show w.heap.size ≤ w.heap.size by omega)
    have ba_u5 := ba_5.cell0
    have ba_v5 := ba_5.cell1
    have ba_w5 := ba_5.cell2
    have bb_u5 := bb_5.cell0
    have bb_v5 := bb_5.cell1
    have bb_w5 := bb_5.cell2
    have br_u5 := br_5.cell0
    have br_v5 := br_5.cell1
    have br_w5 := br_5.cell2
    go_wp2_with fail
    refine (canon_q _ _ _ _ _ _ _ _ _ k_5 n3 n4).mono ?_
    rintro e w6 ⟨s6, A6, n6, c6, B6, m6, d6, rfl, y, b6⟩
    have h_6 := h_5.below b6
    have k_6 := k_5.below b6
    have ba_6 := ba_5.below b6 ba_5.lt
    have bb_6 := bb_5.below b6 bb_5.lt
    have br_6 := br_5.below b6 br_5.lt
    have F6 := below_then F5 (Nat.le_refl _) b6
    have ba_u6 := ba_6.cell0
    have ba_v6 := ba_6.cell1
    have ba_w6 := ba_6.cell2
    have bb_u6 := bb_6.cell0
    have bb_v6 := bb_6.cell1
    have bb_w6 := bb_6.cell2
    have br_u6 := br_6.cell0
    have br_v6 := br_6.cell1
    have br_w6 := br_6.cell2
    have br_f06 := br_6.frozen 0
    have br_f16 := br_6.frozen 1
    have br_f26 := br_6.frozen 2
    go_wp2_with fail
    refine bodyPost_ret (v := .agg #[.bool s6, .slice A6 n6 c6, .slice B6 m6 d6]) (by simp [results, Tryz.results24, go_sem, (br_6.set0 (.bool s6)).cell0, ((br_6.set0 (.bool s6)).set1 (.slice A6 n6 c6)).cell1, (((br_6.set0 (.bool s6)).set1 (.slice A6 n6 c6)).set2 (.slice B6 m6 d6)).cell2]) rfl (gq_end F6 (by omega) br_6 y)
end Go.Proofs.YtnddhohjfjlaiaaGreatDoor
