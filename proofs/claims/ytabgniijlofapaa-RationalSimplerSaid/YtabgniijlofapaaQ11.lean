/-
  The program's Simplest.
-/
import Derived.Test.YtabgniijlofapaaQ10
namespace Go.Proofs.Ytabgniijlofapaa
open Go.RowKit
set_option linter.unusedVariables false
set_option linter.unusedSimpArgs false

theorem gqe_alloc_ {w w' : World} {q : Rat} {r : Int} {e : Ending} (h : GQE w q r e w') (o : Obj) : GQE w q r e (w'.alloc o) := by
  obtain ⟨s, A, n, c, B, m, d, he, hc, hb⟩ := h
  exact ⟨s, A, n, c, B, m, d, he, hc.alloc o, hb.alloc hb.size o⟩
theorem rv_false (xs ys : List Nat) : 0 ≤ rv false xs ys := by
  have h := sz_sign false xs ys
  have h2 : 0 ≤ sz (rv false xs ys).num := by
    rw [← h, iv, sz_ge]
    exact Int.natCast_nonneg _
  exact num_ge0.1 (sz_ge.1 h2)
theorem Iq.mag {w : World} {s : Bool} {A B : Option Addr} {n c m d : Nat} {q : Rat} (h : Iq w s A n c B m d q) (h0 : 0 < q) : Iq w false A n c B m d q := by
  obtain ⟨xs, ys, hx, hy, e⟩ := h
  cases s
  · exact ⟨xs, ys, hx, hy, e⟩
  · have h1 := rv_neg false xs ys
    rw [show (!false) = true from rfl, e] at h1
    have h2 := rv_false xs ys
    grind
theorem Cq.opp {w : World} {A B : Option Addr} {n c m d : Nat} {q : Rat} (h : Cq w false A n c B m d q) (h0 : 0 < q) : Cq w true A n c B m d (-q) := by
  refine ⟨by simpa using h.1, by simpa [qd] using h.2.1, ?_⟩
  have := num_pos h0
  rw [Rat.neg_num]
  symm
  rw [decide_eq_true_eq]
  omega
theorem simplest_range (s t : Bool) (A B A' B' : Option Addr) (n c m d n' c' m' d' : Nat) (p q : Rat) (w : World) (K : Nat) (hK : K ≤ 1000) (hK1 : 1 ≤ K) (h : Iq w s A n c B m d p) (k : Iq w t A' n' c' B' m' d' q) (hn : n ≤ K) (hm : m ≤ K) (hn' : n' ≤ K) (hm' : m' ≤ K) (hpq : ¬ p ≤ q) :
    Calls Try.prog 48 #[.agg #[.bool s, .slice A n c, .slice B m d], .agg #[.bool t, .slice A' n' c', .slice B' m' d']] w (GQE w 0 2) := by
  have ln : n ≤ 4000 := by omega
  have lm : m ≤ 4000 := by omega
  have ln' : n' ≤ 4000 := by omega
  have lm' : m' ≤ 4000 := by omega
  have l1 : n ≤ 16384 := by omega
  have l3 : n' ≤ 16384 := by omega
  obtain ⟨r, hr⟩ : ∃ r, sz (p - q).num = r := ⟨_, rfl⟩
  have HR := hide hr
  have d1 : decide (0 < r) = true := decide_eq_true (by have : ¬ r ≤ 0 := by rw [← hr]; exact fun e => hpq (cmp_le.1 e)
                                                        omega)
  clear hr hpq
  have h_1 := h.alloc (EQ s A n c B m d)
  have k_1 := k.alloc (EQ s A n c B m d)
  have ba_1 : Sq ((w).alloc (EQ s A n c B m d)) (w.heap.size) (.bool s) (.slice A n c) (.slice B m d) := by have h_ := Sq.new (w) (.bool s) (.slice A n c) (.slice B m d); exact h_
  have F1 := (Below.refl w.heap.size w).alloc (Nat.le_refl _) (EQ s A n c B m d)
  have h_2 := h_1.alloc (EQ t A' n' c' B' m' d')
  have k_2 := k_1.alloc (EQ t A' n' c' B' m' d')
  have ba_2 := ba_1.alloc (EQ t A' n' c' B' m' d')
  have bb_2 : Sq (((w).alloc (EQ s A n c B m d)).alloc (EQ t A' n' c' B' m' d')) (w.heap.size + 1) (.bool t) (.slice A' n' c') (.slice B' m' d') := by have h_ := Sq.new ((w).alloc (EQ s A n c B m d)) (.bool t) (.slice A' n' c') (.slice B' m' d'); simp only [World.size_alloc] at h_; exact h_
  have F2 := F1.alloc F1.size (EQ t A' n' c' B' m' d')
  have h_3 := h_2.alloc EQ0
  have k_3 := k_2.alloc EQ0
  have ba_3 := ba_2.alloc EQ0
  have bb_3 := bb_2.alloc EQ0
  have br_3 : Sq ((((w).alloc (EQ s A n c B m d)).alloc (EQ t A' n' c' B' m' d')).alloc EQ0) (w.heap.size + 2) (.bool false) (.slice none 0 0) (.slice none 0 0) := by have h_ := Sq.new (((w).alloc (EQ s A n c B m d)).alloc (EQ t A' n' c' B' m' d')) (.bool false) (.slice none 0 0) (.slice none 0 0); simp only [World.size_alloc] at h_; exact h_
  have F3 := F2.alloc F2.size EQ0
  go_enter Try.func48, Try.ntmps48
  go_wp2_with fail
  refine (cmp_q _ _ _ _ _ _ _ _ _ _ _ _ _ _ _ _ r _ HR.out h_3 k_3 ln lm ln' lm').mono ?_
  rintro e w4 ⟨rfl, b4⟩
  have h_4 := h_3.below b4
  have k_4 := k_3.below b4
  have ba_4 := ba_3.below b4 ba_3.lt
  have bb_4 := bb_3.below b4 bb_3.lt
  have br_4 := br_3.below b4 br_3.lt
  have F4 := below_then F3 (Nat.le_refl _) b4
  have ba_u4 := ba_4.cell0
  have ba_v4 := ba_4.cell1
  have ba_w4 := ba_4.cell2
  have bb_u4 := bb_4.cell0
  have bb_v4 := bb_4.cell1
  have bb_w4 := bb_4.cell2
  have br_u4 := br_4.cell0
  have br_v4 := br_4.cell1
  have br_w4 := br_4.cell2
  have br_f04 := br_4.frozen 0
  have br_f14 := br_4.frozen 1
  have br_f24 := br_4.frozen 2
  go_wp2_with fail
  refine bodyPost_ret (v := .tuple #[.agg #[.bool false, .slice none 0 0, .slice none 0 0], .int .i64 2]) (by simp [results, Try.results48, go_sem, (br_4.set0 (.bool false)).cell0, ((br_4.set0 (.bool false)).set1 (.slice none 0 0)).cell1, (((br_4.set0 (.bool false)).set1 (.slice none 0 0)).set2 (.slice none 0 0)).cell2]) rfl (gqe_end 2 F4 (by omega) br_4 (cq_zero _))
theorem psmp_zero (s t : Bool) (A B A' B' : Option Addr) (n c m d n' c' m' d' : Nat) (p q : Rat) (w : World) (K : Nat) (hK : K ≤ 1000) (hK1 : 1 ≤ K) (h : Iq w s A n c B m d p) (k : Iq w t A' n' c' B' m' d' q) (hn : n ≤ K) (hm : m ≤ K) (hn' : n' ≤ K) (hm' : m' ≤ K) (hpq : p ≤ q) (h1 : p ≤ 0) (h2 : 0 ≤ q) :
    Calls Try.prog 48 #[.agg #[.bool s, .slice A n c, .slice B m d], .agg #[.bool t, .slice A' n' c', .slice B' m' d']] w (GQE w 0 0) := by
  have ln : n ≤ 4000 := by omega
  have lm : m ≤ 4000 := by omega
  have ln' : n' ≤ 4000 := by omega
  have lm' : m' ≤ 4000 := by omega
  have l1 : n ≤ 16384 := by omega
  have l3 : n' ≤ 16384 := by omega
  obtain ⟨r, hr⟩ : ∃ r, sz (p - q).num = r := ⟨_, rfl⟩
  have HR := hide hr
  have d1 : decide (0 < r) = false := decide_eq_false (by have : r ≤ 0 := by rw [← hr]; exact cmp_le.2 hpq
                                                          omega)
  obtain ⟨r1, hr1⟩ : ∃ r, sz p.num = r := ⟨_, rfl⟩
  obtain ⟨r2, hr2⟩ : ∃ r, sz q.num = r := ⟨_, rfl⟩
  have HR1 := hide hr1
  have HR2 := hide hr2
  have d2 : decide (0 < r1) = false := decide_eq_false (by have : r1 ≤ 0 := by rw [← hr1, sz_le]; exact num_le0.2 h1
                                                           omega)
  have d3 : decide (r2 < 0) = false := decide_eq_false (by have : 0 ≤ r2 := by rw [← hr2, sz_ge]; exact num_ge0.2 h2
                                                           omega)
  clear hr hr1 hr2 h1 h2 hpq
  have h_1 := h.alloc (EQ s A n c B m d)
  have k_1 := k.alloc (EQ s A n c B m d)
  have ba_1 : Sq ((w).alloc (EQ s A n c B m d)) (w.heap.size) (.bool s) (.slice A n c) (.slice B m d) := by have h_ := Sq.new (w) (.bool s) (.slice A n c) (.slice B m d); exact h_
  have F1 := (Below.refl w.heap.size w).alloc (Nat.le_refl _) (EQ s A n c B m d)
  have h_2 := h_1.alloc (EQ t A' n' c' B' m' d')
  have k_2 := k_1.alloc (EQ t A' n' c' B' m' d')
  have ba_2 := ba_1.alloc (EQ t A' n' c' B' m' d')
  have bb_2 : Sq (((w).alloc (EQ s A n c B m d)).alloc (EQ t A' n' c' B' m' d')) (w.heap.size + 1) (.bool t) (.slice A' n' c') (.slice B' m' d') := by have h_ := Sq.new ((w).alloc (EQ s A n c B m d)) (.bool t) (.slice A' n' c') (.slice B' m' d'); simp only [World.size_alloc] at h_; exact h_
  have F2 := F1.alloc F1.size (EQ t A' n' c' B' m' d')
  have h_3 := h_2.alloc EQ0
  have k_3 := k_2.alloc EQ0
  have ba_3 := ba_2.alloc EQ0
  have bb_3 := bb_2.alloc EQ0
  have br_3 : Sq ((((w).alloc (EQ s A n c B m d)).alloc (EQ t A' n' c' B' m' d')).alloc EQ0) (w.heap.size + 2) (.bool false) (.slice none 0 0) (.slice none 0 0) := by have h_ := Sq.new (((w).alloc (EQ s A n c B m d)).alloc (EQ t A' n' c' B' m' d')) (.bool false) (.slice none 0 0) (.slice none 0 0); simp only [World.size_alloc] at h_; exact h_
  have F3 := F2.alloc F2.size EQ0
  go_enter Try.func48, Try.ntmps48
  go_wp2_with fail
  refine (cmp_q _ _ _ _ _ _ _ _ _ _ _ _ _ _ _ _ r _ HR.out h_3 k_3 ln lm ln' lm').mono ?_
  rintro e w4 ⟨rfl, b4⟩
  have h_4 := h_3.below b4
  have k_4 := k_3.below b4
  have ba_4 := ba_3.below b4 ba_3.lt
  have bb_4 := bb_3.below b4 bb_3.lt
  have br_4 := br_3.below b4 br_3.lt
  have F4 := below_then F3 (Nat.le_refl _) b4
  have ba_u4 := ba_4.cell0
  have ba_v4 := ba_4.cell1
  have ba_w4 := ba_4.cell2
  have bb_u4 := bb_4.cell0
  have bb_v4 := bb_4.cell1
  have bb_w4 := bb_4.cell2
  have br_u4 := br_4.cell0
  have br_v4 := br_4.cell1
  have br_w4 := br_4.cell2
  go_wp2_with fail
  refine (sign_q _ _ _ _ _ _ _ p r1 _ HR1.out h_4 l1).mono ?_
  rintro e w5 ⟨rfl, b5⟩
  have h_5 := h_4.below b5
  have k_5 := k_4.below b5
  have ba_5 := ba_4.below b5 ba_4.lt
  have bb_5 := bb_4.below b5 bb_4.lt
  have br_5 := br_4.below b5 br_4.lt
  have F5 := below_then F4 (Nat.le_refl _) b5
  have ba_u5 := ba_5.cell0
  have ba_v5 := ba_5.cell1
  have ba_w5 := ba_5.cell2
  have bb_u5 := bb_5.cell0
  have bb_v5 := bb_5.cell1
  have bb_w5 := bb_5.cell2
  have br_u5 := br_5.cell0
  have br_v5 := br_5.cell1
  have br_w5 := br_5.cell2
  go_wp2_with fail
  refine (sign_q _ _ _ _ _ _ _ q r2 _ HR2.out k_5 l3).mono ?_
  rintro e w6 ⟨rfl, b6⟩
  have h_6 := h_5.below b6
  have k_6 := k_5.below b6
  have ba_6 := ba_5.below b6 ba_5.lt
  have bb_6 := bb_5.below b6 bb_5.lt
  have br_6 := br_5.below b6 br_5.lt
  have F6 := below_then F5 (Nat.le_refl _) b6
  have ba_u6 := ba_6.cell0
  have ba_v6 := ba_6.cell1
  have ba_w6 := ba_6.cell2
  have bb_u6 := bb_6.cell0
  have bb_v6 := bb_6.cell1
  have bb_w6 := bb_6.cell2
  have br_u6 := br_6.cell0
  have br_v6 := br_6.cell1
  have br_w6 := br_6.cell2
  have br_f06 := br_6.frozen 0
  have br_f16 := br_6.frozen 1
  have br_f26 := br_6.frozen 2
  go_wp2_with fail
  refine bodyPost_ret (v := .tuple #[.agg #[.bool false, .slice none 0 0, .slice none 0 0], .int .i64 0]) (by simp [results, Try.results48, go_sem, (br_6.set0 (.bool false)).cell0, ((br_6.set0 (.bool false)).set1 (.slice none 0 0)).cell1, (((br_6.set0 (.bool false)).set1 (.slice none 0 0)).set2 (.slice none 0 0)).cell2]) rfl (gqe_end 0 F6 (by omega) br_6 (cq_zero _))
theorem psmp_pos (s t : Bool) (A B A' B' : Option Addr) (n c m d n' c' m' d' : Nat) (p q : Rat) (w : World) (K : Nat) (hK : K ≤ 1000) (hK1 : 1 ≤ K) (h : Iq w s A n c B m d p) (k : Iq w t A' n' c' B' m' d' q) (hn : n ≤ K) (hm : m ≤ K) (hn' : n' ≤ K) (hm' : m' ≤ K) (hpq : p ≤ q) (h1 : 0 < p) :
    Calls Try.prog 48 #[.agg #[.bool s, .slice A n c, .slice B m d], .agg #[.bool t, .slice A' n' c', .slice B' m' d']] w (GQE w (spos (p.den + q.den) p q) 0) := by
  have ln : n ≤ 4000 := by omega
  have lm : m ≤ 4000 := by omega
  have ln' : n' ≤ 4000 := by omega
  have lm' : m' ≤ 4000 := by omega
  have l1 : n ≤ 16384 := by omega
  have l3 : n' ≤ 16384 := by omega
  obtain ⟨r, hr⟩ : ∃ r, sz (p - q).num = r := ⟨_, rfl⟩
  have HR := hide hr
  have d1 : decide (0 < r) = false := decide_eq_false (by have : r ≤ 0 := by rw [← hr]; exact cmp_le.2 hpq
                                                          omega)
  obtain ⟨r1, hr1⟩ : ∃ r, sz p.num = r := ⟨_, rfl⟩
  obtain ⟨r2, hr2⟩ : ∃ r, sz q.num = r := ⟨_, rfl⟩
  have HR1 := hide hr1
  have HR2 := hide hr2
  have d2 : decide (0 < r1) = true := decide_eq_true (by rw [← hr1]; have := num_pos h1; unfold sz; rw [if_neg (by omega), if_neg (by omega)]; omega)
  have hx0 : 0 < spos (p.den + q.den) p q := lt_le h1 (spos_simp _ _ _ h1 hpq (Nat.le_refl _)).1
  have h0q := lt_le h1 hpq
  obtain ⟨x, hx⟩ : ∃ x, spos (p.den + q.den) p q = x := ⟨_, rfl⟩
  have HD := hide (show ∀ (g : Nat) (w : World), Spn w g K p q → Calls Try.prog 73 #[.pointer (some ⟨g, 0, none⟩)] w (Ds w g x) from fun g w hh => by rw [← hx]; exact descend_q _ g p q w K hK hK1 h1 hpq (Nat.le_refl _) hh)
  rw [hx] at hx0 ⊢
  have hm1 := h.mag h1
  have hm2 := k.mag h0q
  clear hr hr1 hr2 hx
  have h_1 := h.alloc (EQ s A n c B m d)
  have k_1 := k.alloc (EQ s A n c B m d)
  have hm1_1 := hm1.alloc (EQ s A n c B m d)
  have hm2_1 := hm2.alloc (EQ s A n c B m d)
  have ba_1 : Sq ((w).alloc (EQ s A n c B m d)) (w.heap.size) (.bool s) (.slice A n c) (.slice B m d) := by have h_ := Sq.new (w) (.bool s) (.slice A n c) (.slice B m d); exact h_
  have F1 := (Below.refl w.heap.size w).alloc (Nat.le_refl _) (EQ s A n c B m d)
  have h_2 := h_1.alloc (EQ t A' n' c' B' m' d')
  have k_2 := k_1.alloc (EQ t A' n' c' B' m' d')
  have hm1_2 := hm1_1.alloc (EQ t A' n' c' B' m' d')
  have hm2_2 := hm2_1.alloc (EQ t A' n' c' B' m' d')
  have ba_2 := ba_1.alloc (EQ t A' n' c' B' m' d')
  have bb_2 : Sq (((w).alloc (EQ s A n c B m d)).alloc (EQ t A' n' c' B' m' d')) (w.heap.size + 1) (.bool t) (.slice A' n' c') (.slice B' m' d') := by have h_ := Sq.new ((w).alloc (EQ s A n c B m d)) (.bool t) (.slice A' n' c') (.slice B' m' d'); simp only [World.size_alloc] at h_; exact h_
  have F2 := F1.alloc F1.size (EQ t A' n' c' B' m' d')
  have h_3 := h_2.alloc EQ0
  have k_3 := k_2.alloc EQ0
  have hm1_3 := hm1_2.alloc EQ0
  have hm2_3 := hm2_2.alloc EQ0
  have ba_3 := ba_2.alloc EQ0
  have bb_3 := bb_2.alloc EQ0
  have br_3 : Sq ((((w).alloc (EQ s A n c B m d)).alloc (EQ t A' n' c' B' m' d')).alloc EQ0) (w.heap.size + 2) (.bool false) (.slice none 0 0) (.slice none 0 0) := by have h_ := Sq.new (((w).alloc (EQ s A n c B m d)).alloc (EQ t A' n' c' B' m' d')) (.bool false) (.slice none 0 0) (.slice none 0 0); simp only [World.size_alloc] at h_; exact h_
  have F3 := F2.alloc F2.size EQ0
  go_enter Try.func48, Try.ntmps48
  go_wp2_with fail
  refine (cmp_q _ _ _ _ _ _ _ _ _ _ _ _ _ _ _ _ r _ HR.out h_3 k_3 ln lm ln' lm').mono ?_
  rintro e w4 ⟨rfl, b4⟩
  have h_4 := h_3.below b4
  have k_4 := k_3.below b4
  have hm1_4 := hm1_3.below b4
  have hm2_4 := hm2_3.below b4
  have ba_4 := ba_3.below b4 ba_3.lt
  have bb_4 := bb_3.below b4 bb_3.lt
  have br_4 := br_3.below b4 br_3.lt
  have F4 := below_then F3 (Nat.le_refl _) b4
  have ba_u4 := ba_4.cell0
  have ba_v4 := ba_4.cell1
  have ba_w4 := ba_4.cell2
  have bb_u4 := bb_4.cell0
  have bb_v4 := bb_4.cell1
  have bb_w4 := bb_4.cell2
  have br_u4 := br_4.cell0
  have br_v4 := br_4.cell1
  have br_w4 := br_4.cell2
  go_wp2_with fail
  refine (sign_q _ _ _ _ _ _ _ p r1 _ HR1.out h_4 l1).mono ?_
  rintro e w5 ⟨rfl, b5⟩
  have h_5 := h_4.below b5
  have k_5 := k_4.below b5
  have hm1_5 := hm1_4.below b5
  have hm2_5 := hm2_4.below b5
  have ba_5 := ba_4.below b5 ba_4.lt
  have bb_5 := bb_4.below b5 bb_4.lt
  have br_5 := br_4.below b5 br_4.lt
  have F5 := below_then F4 (Nat.le_refl _) b5
  have ba_u5 := ba_5.cell0
  have ba_v5 := ba_5.cell1
  have ba_w5 := ba_5.cell2
  have bb_u5 := bb_5.cell0
  have bb_v5 := bb_5.cell1
  have bb_w5 := bb_5.cell2
  have br_u5 := br_5.cell0
  have br_v5 := br_5.cell1
  have br_w5 := br_5.cell2
  have hsp := Sp.new w5 (.bool s) (.slice A n c) (.slice B m d) (.bool t) (.slice A' n' c') (.slice B' m' d')
  have bl := br_5.lt
  have hspn : Spn (w5.alloc _) w5.heap.size K p q := ⟨_, _, _, _, _, _, _, _, _, _, _, _, _, _, hsp, hm1_5.alloc _, hm2_5.alloc _, hn, hm, hn', hm'⟩
  go_wp2_with fail
  refine (HD.out _ _ hspn).mono ?_
  rintro e w6 ⟨A6, n6, c6, B6, m6, d6, rfl, hx, g6⟩
  have F6 : Below w.heap.size w w6 := (F5.alloc F5.size _).grown g6 (F5.alloc F5.size _).size (fun j hj => by obtain rfl := Option.some.inj hj; exact F5.size)
  have br_6 := (br_5.alloc _).grown g6 (Nat.ne_of_lt bl)
  have br_u6 := br_6.cell0
  have br_v6 := br_6.cell1
  have br_w6 := br_6.cell2
  have br_f06 := br_6.frozen 0
  have br_f16 := br_6.frozen 1
  have br_f26 := br_6.frozen 2
  go_wp2_with fail
  refine bodyPost_ret (v := .tuple #[.agg #[.bool false, .slice A6 n6 c6, .slice B6 m6 d6], .int .i64 0]) (by simp [results, Try.results48, go_sem, (br_6.set0 (.bool false)).cell0, ((br_6.set0 (.bool false)).set1 (.slice A6 n6 c6)).cell1, (((br_6.set0 (.bool false)).set1 (.slice A6 n6 c6)).set2 (.slice B6 m6 d6)).cell2]) rfl (gqe_end 0 F6 (by omega) br_6 hx)
theorem psmp_neg (s t : Bool) (A B A' B' : Option Addr) (n c m d n' c' m' d' : Nat) (p q : Rat) (w : World) (K : Nat) (hK : K ≤ 1000) (hK1 : 1 ≤ K) (h : Iq w s A n c B m d p) (k : Iq w t A' n' c' B' m' d' q) (hn : n ≤ K) (hm : m ≤ K) (hn' : n' ≤ K) (hm' : m' ≤ K) (hpq : p ≤ q) (h1 : q < 0) :
    Calls Try.prog 48 #[.agg #[.bool s, .slice A n c, .slice B m d], .agg #[.bool t, .slice A' n' c', .slice B' m' d']] w (GQE w (-(spos (q.den + p.den) (-q) (-p))) 0) := by
  have ln : n ≤ 4000 := by omega
  have lm : m ≤ 4000 := by omega
  have ln' : n' ≤ 4000 := by omega
  have lm' : m' ≤ 4000 := by omega
  have l1 : n ≤ 16384 := by omega
  have l3 : n' ≤ 16384 := by omega
  obtain ⟨r, hr⟩ : ∃ r, sz (p - q).num = r := ⟨_, rfl⟩
  have HR := hide hr
  have d1 : decide (0 < r) = false := decide_eq_false (by have : r ≤ 0 := by rw [← hr]; exact cmp_le.2 hpq
                                                          omega)
  obtain ⟨r1, hr1⟩ : ∃ r, sz p.num = r := ⟨_, rfl⟩
  obtain ⟨r2, hr2⟩ : ∃ r, sz q.num = r := ⟨_, rfl⟩
  have HR1 := hide hr1
  have HR2 := hide hr2
  have d2 : decide (0 < r1) = false := decide_eq_false (by have : r1 ≤ 0 := by rw [← hr1, sz_le]; exact num_le0.2 (Rat.le_trans hpq (by grind))
                                                           omega)
  have d3 : decide (r2 < 0) = true := decide_eq_true (by rw [← hr2, sz_lt]; exact num_lt0.2 h1)
  have h1' : 0 < -q := by grind
  have hpq' : -q ≤ -p := by grind
  have hden : (-q).den + (-p).den ≤ q.den + p.den := by simp
  have hx0 : 0 < spos (q.den + p.den) (-q) (-p) := lt_le h1' (spos_simp _ _ _ h1' hpq' hden).1
  have h0p : 0 < -p := lt_le h1' hpq'
  obtain ⟨x, hx⟩ : ∃ x, spos (q.den + p.den) (-q) (-p) = x := ⟨_, rfl⟩
  have HD := hide (show ∀ (g : Nat) (w : World), Spn w g K (-q) (-p) → Calls Try.prog 73 #[.pointer (some ⟨g, 0, none⟩)] w (Ds w g x) from fun g w hh => by rw [← hx]; exact descend_q _ g (-q) (-p) w K hK hK1 h1' hpq' hden hh)
  rw [hx] at hx0 ⊢
  have hm1 := h.neg.mag h0p
  have hm2 := k.neg.mag h1'
  clear hr hr1 hr2 hx hden
  have h_1 := h.alloc (EQ s A n c B m d)
  have k_1 := k.alloc (EQ s A n c B m d)
  have hm1_1 := hm1.alloc (EQ s A n c B m d)
  have hm2_1 := hm2.alloc (EQ s A n c B m d)
  have ba_1 : Sq ((w).alloc (EQ s A n c B m d)) (w.heap.size) (.bool s) (.slice A n c) (.slice B m d) := by have h_ := Sq.new (w) (.bool s) (.slice A n c) (.slice B m d); exact h_
  have F1 := (Below.refl w.heap.size w).alloc (Nat.le_refl _) (EQ s A n c B m d)
  have h_2 := h_1.alloc (EQ t A' n' c' B' m' d')
  have k_2 := k_1.alloc (EQ t A' n' c' B' m' d')
  have hm1_2 := hm1_1.alloc (EQ t A' n' c' B' m' d')
  have hm2_2 := hm2_1.alloc (EQ t A' n' c' B' m' d')
  have ba_2 := ba_1.alloc (EQ t A' n' c' B' m' d')
  have bb_2 : Sq (((w).alloc (EQ s A n c B m d)).alloc (EQ t A' n' c' B' m' d')) (w.heap.size + 1) (.bool t) (.slice A' n' c') (.slice B' m' d') := by have h_ := Sq.new ((w).alloc (EQ s A n c B m d)) (.bool t) (.slice A' n' c') (.slice B' m' d'); simp only [World.size_alloc] at h_; exact h_
  have F2 := F1.alloc F1.size (EQ t A' n' c' B' m' d')
  have h_3 := h_2.alloc EQ0
  have k_3 := k_2.alloc EQ0
  have hm1_3 := hm1_2.alloc EQ0
  have hm2_3 := hm2_2.alloc EQ0
  have ba_3 := ba_2.alloc EQ0
  have bb_3 := bb_2.alloc EQ0
  have br_3 : Sq ((((w).alloc (EQ s A n c B m d)).alloc (EQ t A' n' c' B' m' d')).alloc EQ0) (w.heap.size + 2) (.bool false) (.slice none 0 0) (.slice none 0 0) := by have h_ := Sq.new (((w).alloc (EQ s A n c B m d)).alloc (EQ t A' n' c' B' m' d')) (.bool false) (.slice none 0 0) (.slice none 0 0); simp only [World.size_alloc] at h_; exact h_
  have F3 := F2.alloc F2.size EQ0
  go_enter Try.func48, Try.ntmps48
  go_wp2_with fail
  refine (cmp_q _ _ _ _ _ _ _ _ _ _ _ _ _ _ _ _ r _ HR.out h_3 k_3 ln lm ln' lm').mono ?_
  rintro e w4 ⟨rfl, b4⟩
  have h_4 := h_3.below b4
  have k_4 := k_3.below b4
  have hm1_4 := hm1_3.below b4
  have hm2_4 := hm2_3.below b4
  have ba_4 := ba_3.below b4 ba_3.lt
  have bb_4 := bb_3.below b4 bb_3.lt
  have br_4 := br_3.below b4 br_3.lt
  have F4 := below_then F3 (Nat.le_refl _) b4
  have ba_u4 := ba_4.cell0
  have ba_v4 := ba_4.cell1
  have ba_w4 := ba_4.cell2
  have bb_u4 := bb_4.cell0
  have bb_v4 := bb_4.cell1
  have bb_w4 := bb_4.cell2
  have br_u4 := br_4.cell0
  have br_v4 := br_4.cell1
  have br_w4 := br_4.cell2
  go_wp2_with fail
  refine (sign_q _ _ _ _ _ _ _ p r1 _ HR1.out h_4 l1).mono ?_
  rintro e w5 ⟨rfl, b5⟩
  have h_5 := h_4.below b5
  have k_5 := k_4.below b5
  have hm1_5 := hm1_4.below b5
  have hm2_5 := hm2_4.below b5
  have ba_5 := ba_4.below b5 ba_4.lt
  have bb_5 := bb_4.below b5 bb_4.lt
  have br_5 := br_4.below b5 br_4.lt
  have F5 := below_then F4 (Nat.le_refl _) b5
  have ba_u5 := ba_5.cell0
  have ba_v5 := ba_5.cell1
  have ba_w5 := ba_5.cell2
  have bb_u5 := bb_5.cell0
  have bb_v5 := bb_5.cell1
  have bb_w5 := bb_5.cell2
  have br_u5 := br_5.cell0
  have br_v5 := br_5.cell1
  have br_w5 := br_5.cell2
  go_wp2_with fail
  refine (sign_q _ _ _ _ _ _ _ q r2 _ HR2.out k_5 l3).mono ?_
  rintro e w6 ⟨rfl, b6⟩
  have h_6 := h_5.below b6
  have k_6 := k_5.below b6
  have hm1_6 := hm1_5.below b6
  have hm2_6 := hm2_5.below b6
  have ba_6 := ba_5.below b6 ba_5.lt
  have bb_6 := bb_5.below b6 bb_5.lt
  have br_6 := br_5.below b6 br_5.lt
  have F6 := below_then F5 (Nat.le_refl _) b6
  have ba_u6 := ba_6.cell0
  have ba_v6 := ba_6.cell1
  have ba_w6 := ba_6.cell2
  have bb_u6 := bb_6.cell0
  have bb_v6 := bb_6.cell1
  have bb_w6 := bb_6.cell2
  have br_u6 := br_6.cell0
  have br_v6 := br_6.cell1
  have br_w6 := br_6.cell2
  have hsp := Sp.new w6 (.bool t) (.slice A' n' c') (.slice B' m' d') (.bool s) (.slice A n c) (.slice B m d)
  have bl := br_6.lt
  have hspn : Spn (w6.alloc _) w6.heap.size K (-q) (-p) := ⟨_, _, _, _, _, _, _, _, _, _, _, _, _, _, hsp, hm2_6.alloc _, hm1_6.alloc _, hn', hm', hn, hm⟩
  go_wp2_with fail
  refine (HD.out _ _ hspn).mono ?_
  rintro e w7 ⟨A7, n7, c7, B7, m7, d7, rfl, hx, g7⟩
  have F7 : Below w.heap.size w w7 := (F6.alloc F6.size _).grown g7 (F6.alloc F6.size _).size (fun j hj => by obtain rfl := Option.some.inj hj; exact F6.size)
  have br_7 := (br_6.alloc _).grown g7 (Nat.ne_of_lt bl)
  have br_u7 := br_7.cell0
  have br_v7 := br_7.cell1
  have br_w7 := br_7.cell2
  have br_f07 := br_7.frozen 0
  have br_f17 := br_7.frozen 1
  have br_f27 := br_7.frozen 2
  have lt_ := br_7.lt
  have ne_ := Nat.ne_of_lt br_7.lt
  go_wp2_with fail
  have z_ := (br_7.stor (u0 := .bool true) (u1 := .slice A7 n7 c7) (u2 := .slice B7 m7 d7)).alloc (EQ true A7 n7 c7 B7 m7 d7)
  refine bodyPost_ret (v := .tuple #[.agg #[.bool true, .slice A7 n7 c7, .slice B7 m7 d7], .int .i64 0]) (by simp [results, Try.results48, go_sem, z_.cell0, z_.cell1, z_.cell2, (br_7.set0 (.bool true)).cell0, ((br_7.set0 (.bool true)).set1 (.slice A7 n7 c7)).cell1, (((br_7.set0 (.bool true)).set1 (.slice A7 n7 c7)).set2 (.slice B7 m7 d7)).cell2]) rfl (gqe_alloc_ (gqe_end 0 F7 (by omega) br_7 (hx.opp hx0)) _)
theorem simplest_q (s t : Bool) (A B A' B' : Option Addr) (n c m d n' c' m' d' : Nat) (p q : Rat) (w : World) (K : Nat) (hK : K ≤ 1000) (hK1 : 1 ≤ K) (h : Iq w s A n c B m d p) (k : Iq w t A' n' c' B' m' d' q) (hn : n ≤ K) (hm : m ≤ K) (hn' : n' ≤ K) (hm' : m' ≤ K) (hpq : p ≤ q) :
    Calls Try.prog 48 #[.agg #[.bool s, .slice A n c, .slice B m d], .agg #[.bool t, .slice A' n' c', .slice B' m' d']] w (GQE w (smp p q) 0) := by
  unfold smp
  by_cases h1 : p ≤ 0 ∧ 0 ≤ q
  · rw [if_pos h1]
    exact psmp_zero s t A B A' B' n c m d n' c' m' d' p q w K hK hK1 h k hn hm hn' hm' hpq h1.1 h1.2
  · rw [if_neg h1]
    by_cases h2 : q < 0
    · rw [if_pos h2]
      exact psmp_neg s t A B A' B' n c m d n' c' m' d' p q w K hK hK1 h k hn hm hn' hm' hpq h2
    · rw [if_neg h2]
      have h3 : 0 < p := Rat.not_le.1 fun e => h1 ⟨e, Rat.not_lt.1 h2⟩
      exact psmp_pos s t A B A' B' n c m d n' c' m' d' p q w K hK hK1 h k hn hm hn' hm' hpq h3
end Go.Proofs.Ytabgniijlofapaa
