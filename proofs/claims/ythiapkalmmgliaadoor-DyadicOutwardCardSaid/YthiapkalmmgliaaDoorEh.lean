/-
  Product.
-/
import Derived.Test.YthiapkalmmgliaaDoorEg
namespace Go.Proofs.YthiapkalmmgliaaDoor
open Go.RowKit
set_option linter.unusedVariables false
set_option linter.unusedSimpArgs false

theorem chk_pq (s t s' : Bool) (hs : s' = (!s == t)) (A : Option Addr) (n c k X Y : Nat) (e x z : Int) (hz : z = e + x) (p q : Rat) (w : World) (h : Nz w A n c k (X * Y)) (hk : k ≤ 1000000) (hp : dvl s X e = p) (hq : dvl t Y x = q) (he : -4000000 ≤ e ∧ e ≤ 4000000) (hx : -4000000 ≤ x ∧ x ≤ 4000000) (hr : -1048576 ≤ de (p * q) ∧ de (p * q) ≤ 1048576) (T : Tb w) :
    Calls Tryd.prog 65 #[.bool s', .slice A n c, .int .i64 z] w (GDE w (p * q) 0) := by
  subst hs hz
  exact chk_q _ _ _ _ _ _ _ _ _ h hk (by rw [dvl_mul, hp, hq]) (by omega) hr T
theorem ymul_g (s : Bool) (A : Option Addr) (n c : Nat) (e : Int) (t : Bool) (B : Option Addr) (m d : Nat) (x : Int) (p q : Rat) (w : World) (h : Cy w s A n c e p) (k : Cy w t B m d x q) (hn : n ≤ 3) (hm : m ≤ 3) (he : -1048576 ≤ e ∧ e ≤ 1048576) (hx : -1048576 ≤ x ∧ x ≤ 1048576) (hr : -1048576 ≤ de (p * q) ∧ de (p * q) ≤ 1048576) (T : Tb w) :
    Calls Tryd.prog 36 #[.agg #[.bool s, .slice A n c, .int .i64 e], .agg #[.bool t, .slice B m d, .int .i64 x]] w (GDE w (p * q) 0) := by
  have HP := hide h.val
  have HQ := hide k.val
  have HR := hide hr
  have HE := hide (show (-4000000 ≤ e ∧ e ≤ 4000000) ∧ (-4000000 ≤ x ∧ x ≤ 4000000) by omega)
  have he1 := he.1
  have he2 := he.2
  have hx1 := hx.1
  have hx2 := hx.2
  have HW := hide (show IntKind.i64.wrap (e + x) = e + x by first | go_num | (unfold IntKind.wrap; simp; omega) | (simp [IntKind.wrap, IntKind.bits, IntKind.signed]; omega))
  have h1 := (h.ny hn).nz
  have k1 := (k.ny hm).nz
  have j1 : 3 + 3 ≤ 6 := by decide
  have j2 : 6 ≤ 1048576 := by decide
  have j3 : 6 ≤ 1000000 := by decide
  clear hr hn hm he hx h k
  have h := h1
  have k := k1
  clear h1 k1
  have h_1 := h.alloc (EY s A n c e)
  have k_1 := k.alloc (EY s A n c e)
  have T_1 := T.alloc (EY s A n c e)
  have ba_1 : Sy ((w).alloc (EY s A n c e)) (w.heap.size) (.bool s) (.slice A n c) (.int .i64 e) := by have h_ := Sy.new (w) (.bool s) (.slice A n c) (.int .i64 e); exact h_
  have F1 := (Below.refl w.heap.size w).alloc (Nat.le_refl _) (EY s A n c e)
  have h_2 := h_1.alloc (EY t B m d x)
  have k_2 := k_1.alloc (EY t B m d x)
  have T_2 := T_1.alloc (EY t B m d x)
  have ba_2 := ba_1.alloc (EY t B m d x)
  have bb_2 : Sy (((w).alloc (EY s A n c e)).alloc (EY t B m d x)) (w.heap.size + 1) (.bool t) (.slice B m d) (.int .i64 x) := by have h_ := Sy.new ((w).alloc (EY s A n c e)) (.bool t) (.slice B m d) (.int .i64 x); simp only [World.size_alloc] at h_; exact h_
  have F2 := F1.alloc F1.size (EY t B m d x)
  have h_3 := h_2.alloc EY0
  have k_3 := k_2.alloc EY0
  have T_3 := T_2.alloc EY0
  have ba_3 := ba_2.alloc EY0
  have bb_3 := bb_2.alloc EY0
  have br_3 : Sy ((((w).alloc (EY s A n c e)).alloc (EY t B m d x)).alloc EY0) (w.heap.size + 2) (.bool false) (.slice none 0 0) (.int .i64 0) := by have h_ := Sy.new (((w).alloc (EY s A n c e)).alloc (EY t B m d x)) (.bool false) (.slice none 0 0) (.int .i64 0); simp only [World.size_alloc] at h_; exact h_
  have F3 := F2.alloc F2.size EY0
  go_enter Tryd.func36, Tryd.ntmps36
  have ba_u3 := ba_3.cell0
  have ba_v3 := ba_3.cell1
  have ba_w3 := ba_3.cell2
  have bb_u3 := bb_3.cell0
  have bb_v3 := bb_3.cell1
  have bb_w3 := bb_3.cell2
  have br_u3 := br_3.cell0
  have br_v3 := br_3.cell1
  have br_w3 := br_3.cell2
  go_wp2_with fail
  have h_4 := h_3.drew
  have k_4 := k_3.drew
  have T_4 := T_3.drew
  have ba_4 := ba_3.drew
  have bb_4 := bb_3.drew
  have br_4 := br_3.drew
  have F4 := F3.drew
  go_region_held3 (fun w' => w'.cell? ⟨w.heap.size, 0, none⟩ = some (.bool s) ∧ w'.cell? ⟨w.heap.size, 1, none⟩ = some (.slice A n c) ∧ w'.cell? ⟨w.heap.size, 2, none⟩ = some (.int .i64 e) ∧ w'.cell? ⟨w.heap.size + 1, 0, none⟩ = some (.bool t) ∧ w'.cell? ⟨w.heap.size + 1, 1, none⟩ = some (.slice B m d) ∧ w'.cell? ⟨w.heap.size + 1, 2, none⟩ = some (.int .i64 x))
    (first
      | with_reducible exact ⟨ba_p.cell0, ba_p.cell1, ba_p.cell2, bb_p.cell0, bb_p.cell1, bb_p.cell2⟩
      | with_reducible exact ⟨ba_6.cell0, ba_6.cell1, ba_6.cell2, bb_6.cell0, bb_6.cell1, bb_6.cell2⟩
      | with_reducible exact ⟨ba_5.cell0, ba_5.cell1, ba_5.cell2, bb_5.cell0, bb_5.cell1, bb_5.cell2⟩
      | with_reducible exact ⟨ba_4.cell0, ba_4.cell1, ba_4.cell2, bb_4.cell0, bb_4.cell1, bb_4.cell2⟩
      | fail)
    (first
      | (go_at_call 66; (with_reducible refine (mul_n _ _ _ _ _ _ _ _ 6 _ _ (dm p * dm q) _ rfl h_4 k_4 j1 j2).mono ?_); rintro e w5 ⟨A5, n5, c5, rfl, pr, b5⟩; have h_5 := h_4.below b5; have k_5 := k_4.below b5; have T_5 := T_4.below b5; have ba_5 := ba_4.below b5 ba_4.lt; have bb_5 := bb_4.below b5 bb_4.lt; have br_5 := br_4.below b5 br_4.lt; have F5 := below_then F4 (Nat.le_refl _) b5)
      | (go_at_call 65; (with_reducible refine (chk_pq s t _ (by cases s <;> cases t <;> rfl) _ _ _ 6 (dm p) (dm q) e x _ HW.out p q _ pr.nz j3 HP.out HQ.out HE.out.1 HE.out.2 HR.out T_5).mono ?_); rintro e w6 ⟨s6, A6, n6, c6, x6, rfl, y, b6⟩; have h_6 := h_5.below b6; have k_6 := k_5.below b6; have T_6 := T_5.below b6; have pr_6 := pr.below b6; have ba_6 := ba_5.below b6 ba_5.lt; have bb_6 := bb_5.below b6 bb_5.lt; have br_6 := br_5.below b6 br_5.lt; have F6 := below_then F5 (Nat.le_refl _) b6; have br_g0 := br_6.cell0; have br_h0 := br_6.frozen 0; have br_g1 := br_6.cell1; have br_h1 := br_6.frozen 1; have br_g2 := br_6.cell2; have br_h2 := br_6.frozen 2; have ba_p := ba_6.past (g' := w.heap.size + 2) (u0 := .bool s6) (u1 := .slice A6 n6 c6) (u2 := .int .i64 x6) (by omega); have bb_p := bb_6.past (g' := w.heap.size + 2) (u0 := .bool s6) (u1 := .slice A6 n6 c6) (u2 := .int .i64 x6) (by omega))
      | fail)
  have br_f06 := br_6.frozen 0
  have br_f16 := br_6.frozen 1
  have br_f26 := br_6.frozen 2
  go_wp2_with fail
  refine bodyPost_ret (v := .tuple #[.agg #[.bool s6, .slice A6 n6 c6, .int .i64 x6], .int .i64 0]) (by simp [results, Tryd.results36, go_sem, (br_6.set0 (.bool s6)).cell0, ((br_6.set0 (.bool s6)).set1 (.slice A6 n6 c6)).cell1, (((br_6.set0 (.bool s6)).set1 (.slice A6 n6 c6)).set2 (.int .i64 x6)).cell2]) rfl (gde_end 0 F6 (by omega) br_6 y)
theorem chk_pb (s t s' : Bool) (hs : s' = (!s == t)) (A : Option Addr) (n c k X Y : Nat) (e x z : Int) (hz : z = e + x) (p q : Rat) (w : World) (h : Nz w A n c k (X * Y)) (hk : k ≤ 1000000) (hp : dvl s X e = p) (hq : dvl t Y x = q) (he : -4000000 ≤ e ∧ e ≤ 4000000) (hx : -4000000 ≤ x ∧ x ≤ 4000000) (h00 : p * q ≠ 0) (hr : de (p * q) < -1048576 ∨ 1048576 < de (p * q)) (T : Tb w) :
    Calls Tryd.prog 65 #[.bool s', .slice A n c, .int .i64 z] w (GDE w 0 2) := by
  subst hs hz
  exact chk_bad _ _ _ _ _ _ _ _ _ h hk (by rw [dvl_mul, hp, hq]) (by omega) h00 hr T
theorem ymul_x (s : Bool) (A : Option Addr) (n c : Nat) (e : Int) (t : Bool) (B : Option Addr) (m d : Nat) (x : Int) (p q : Rat) (w : World) (h : Cy w s A n c e p) (k : Cy w t B m d x q) (hn : n ≤ 3) (hm : m ≤ 3) (he : -1048576 ≤ e ∧ e ≤ 1048576) (hx : -1048576 ≤ x ∧ x ≤ 1048576) (h00 : p * q ≠ 0) (hr : de (p * q) < -1048576 ∨ 1048576 < de (p * q)) (T : Tb w) :
    Calls Tryd.prog 36 #[.agg #[.bool s, .slice A n c, .int .i64 e], .agg #[.bool t, .slice B m d, .int .i64 x]] w (GDE w 0 2) := by
  have HP := hide h.val
  have HQ := hide k.val
  have HR := hide hr
  have H00 := hide h00
  have HE := hide (show (-4000000 ≤ e ∧ e ≤ 4000000) ∧ (-4000000 ≤ x ∧ x ≤ 4000000) by omega)
  have he1 := he.1
  have he2 := he.2
  have hx1 := hx.1
  have hx2 := hx.2
  have HW := hide (show IntKind.i64.wrap (e + x) = e + x by first | go_num | (unfold IntKind.wrap; simp; omega) | (simp [IntKind.wrap, IntKind.bits, IntKind.signed]; omega))
  have h1 := (h.ny hn).nz
  have k1 := (k.ny hm).nz
  have j1 : 3 + 3 ≤ 6 := by decide
  have j2 : 6 ≤ 1048576 := by decide
  have j3 : 6 ≤ 1000000 := by decide
  clear hr hn hm he hx h k h00
  have h := h1
  have k := k1
  clear h1 k1
  have h_1 := h.alloc (EY s A n c e)
  have k_1 := k.alloc (EY s A n c e)
  have T_1 := T.alloc (EY s A n c e)
  have ba_1 : Sy ((w).alloc (EY s A n c e)) (w.heap.size) (.bool s) (.slice A n c) (.int .i64 e) := by have h_ := Sy.new (w) (.bool s) (.slice A n c) (.int .i64 e); exact h_
  have F1 := (Below.refl w.heap.size w).alloc (Nat.le_refl _) (EY s A n c e)
  have h_2 := h_1.alloc (EY t B m d x)
  have k_2 := k_1.alloc (EY t B m d x)
  have T_2 := T_1.alloc (EY t B m d x)
  have ba_2 := ba_1.alloc (EY t B m d x)
  have bb_2 : Sy (((w).alloc (EY s A n c e)).alloc (EY t B m d x)) (w.heap.size + 1) (.bool t) (.slice B m d) (.int .i64 x) := by have h_ := Sy.new ((w).alloc (EY s A n c e)) (.bool t) (.slice B m d) (.int .i64 x); simp only [World.size_alloc] at h_; exact h_
  have F2 := F1.alloc F1.size (EY t B m d x)
  have h_3 := h_2.alloc EY0
  have k_3 := k_2.alloc EY0
  have T_3 := T_2.alloc EY0
  have ba_3 := ba_2.alloc EY0
  have bb_3 := bb_2.alloc EY0
  have br_3 : Sy ((((w).alloc (EY s A n c e)).alloc (EY t B m d x)).alloc EY0) (w.heap.size + 2) (.bool false) (.slice none 0 0) (.int .i64 0) := by have h_ := Sy.new (((w).alloc (EY s A n c e)).alloc (EY t B m d x)) (.bool false) (.slice none 0 0) (.int .i64 0); simp only [World.size_alloc] at h_; exact h_
  have F3 := F2.alloc F2.size EY0
  go_enter Tryd.func36, Tryd.ntmps36
  have ba_u3 := ba_3.cell0
  have ba_v3 := ba_3.cell1
  have ba_w3 := ba_3.cell2
  have bb_u3 := bb_3.cell0
  have bb_v3 := bb_3.cell1
  have bb_w3 := bb_3.cell2
  have br_u3 := br_3.cell0
  have br_v3 := br_3.cell1
  have br_w3 := br_3.cell2
  go_wp2_with fail
  have h_4 := h_3.drew
  have k_4 := k_3.drew
  have T_4 := T_3.drew
  have ba_4 := ba_3.drew
  have bb_4 := bb_3.drew
  have br_4 := br_3.drew
  have F4 := F3.drew
  go_region_held3 (fun w' => w'.cell? ⟨w.heap.size, 0, none⟩ = some (.bool s) ∧ w'.cell? ⟨w.heap.size, 1, none⟩ = some (.slice A n c) ∧ w'.cell? ⟨w.heap.size, 2, none⟩ = some (.int .i64 e) ∧ w'.cell? ⟨w.heap.size + 1, 0, none⟩ = some (.bool t) ∧ w'.cell? ⟨w.heap.size + 1, 1, none⟩ = some (.slice B m d) ∧ w'.cell? ⟨w.heap.size + 1, 2, none⟩ = some (.int .i64 x))
    (first
      | with_reducible exact ⟨ba_p.cell0, ba_p.cell1, ba_p.cell2, bb_p.cell0, bb_p.cell1, bb_p.cell2⟩
      | with_reducible exact ⟨ba_6.cell0, ba_6.cell1, ba_6.cell2, bb_6.cell0, bb_6.cell1, bb_6.cell2⟩
      | with_reducible exact ⟨ba_5.cell0, ba_5.cell1, ba_5.cell2, bb_5.cell0, bb_5.cell1, bb_5.cell2⟩
      | with_reducible exact ⟨ba_4.cell0, ba_4.cell1, ba_4.cell2, bb_4.cell0, bb_4.cell1, bb_4.cell2⟩
      | fail)
    (first
      | (go_at_call 66; (with_reducible refine (mul_n _ _ _ _ _ _ _ _ 6 _ _ (dm p * dm q) _ rfl h_4 k_4 j1 j2).mono ?_); rintro e w5 ⟨A5, n5, c5, rfl, pr, b5⟩; have h_5 := h_4.below b5; have k_5 := k_4.below b5; have T_5 := T_4.below b5; have ba_5 := ba_4.below b5 ba_4.lt; have bb_5 := bb_4.below b5 bb_4.lt; have br_5 := br_4.below b5 br_4.lt; have F5 := below_then F4 (Nat.le_refl _) b5)
      | (go_at_call 65; (with_reducible refine (chk_pb s t _ (by cases s <;> cases t <;> rfl) _ _ _ 6 (dm p) (dm q) e x _ HW.out p q _ pr.nz j3 HP.out HQ.out HE.out.1 HE.out.2 H00.out HR.out T_5).mono ?_); rintro e w6 ⟨s6, A6, n6, c6, x6, rfl, y, b6⟩; have h_6 := h_5.below b6; have k_6 := k_5.below b6; have T_6 := T_5.below b6; have pr_6 := pr.below b6; have ba_6 := ba_5.below b6 ba_5.lt; have bb_6 := bb_5.below b6 bb_5.lt; have br_6 := br_5.below b6 br_5.lt; have F6 := below_then F5 (Nat.le_refl _) b6; have br_g0 := br_6.cell0; have br_h0 := br_6.frozen 0; have br_g1 := br_6.cell1; have br_h1 := br_6.frozen 1; have br_g2 := br_6.cell2; have br_h2 := br_6.frozen 2; have ba_p := ba_6.past (g' := w.heap.size + 2) (u0 := .bool s6) (u1 := .slice A6 n6 c6) (u2 := .int .i64 x6) (by omega); have bb_p := bb_6.past (g' := w.heap.size + 2) (u0 := .bool s6) (u1 := .slice A6 n6 c6) (u2 := .int .i64 x6) (by omega))
      | fail)
  have br_f06 := br_6.frozen 0
  have br_f16 := br_6.frozen 1
  have br_f26 := br_6.frozen 2
  go_wp2_with fail
  refine bodyPost_ret (v := .tuple #[.agg #[.bool s6, .slice A6 n6 c6, .int .i64 x6], .int .i64 2]) (by simp [results, Tryd.results36, go_sem, (br_6.set0 (.bool s6)).cell0, ((br_6.set0 (.bool s6)).set1 (.slice A6 n6 c6)).cell1, (((br_6.set0 (.bool s6)).set1 (.slice A6 n6 c6)).set2 (.int .i64 x6)).cell2]) rfl (gde_end 2 F6 (by omega) br_6 y)
end Go.Proofs.YthiapkalmmgliaaDoor
