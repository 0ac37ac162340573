/-
  Small intervals, points of intervals, products: mathematics and contracts.
-/
import Derived.Test.YtnddhohjfjlaiaaGreatDoorU1
namespace Go.Proofs.YtnddhohjfjlaiaaGreatDoor
open Go.RowKit
set_option linter.unusedVariables false
set_option linter.unusedSimpArgs false

theorem S6.past {w : World} {g g' : Nat} {v0 v1 v2 v3 v4 v5 u0 u1 u2 u3 u4 u5 : Value} (h : S6 w g v0 v1 v2 v3 v4 v5) (hg : g ≠ g') : S6 ((((((w.setCell ⟨g', 0, none⟩ u0).setCell ⟨g', 1, none⟩ u1).setCell ⟨g', 2, none⟩ u2).setCell ⟨g', 3, none⟩ u3).setCell ⟨g', 4, none⟩ u4).setCell ⟨g', 5, none⟩ u5) g v0 v1 v2 v3 v4 v5 := (((((h.far hg u0).far hg u1).far hg u2).far hg u3).far hg u4).far hg u5
theorem S6_at {w : World} {g g' : Nat} {v0 v1 v2 v3 v4 v5 : Value} (h : S6 w g v0 v1 v2 v3 v4 v5) (e : g = g') : S6 w g' v0 v1 v2 v3 v4 v5 := e ▸ h
theorem mn_l (p q : Rat) : min p q ≤ p := by rw [← mn_of]; split <;> grind
theorem mn_r (p q : Rat) : min p q ≤ q := by rw [← mn_of]; split <;> grind
theorem mx_l (p q : Rat) : p ≤ max p q := by rw [← mx_of]; split <;> grind
theorem mx_r (p q : Rat) : q ≤ max p q := by rw [← mx_of]; split <;> grind
theorem le_mn {p q z : Rat} (h1 : z ≤ p) (h2 : z ≤ q) : z ≤ min p q := by rw [← mn_of]; split <;> assumption
theorem mx_le {p q z : Rat} (h1 : p ≤ z) (h2 : q ≤ z) : max p q ≤ z := by rw [← mx_of]; split <;> assumption
theorem lin_in {a b x c : Rat} (h1 : a ≤ x) (h2 : x ≤ b) : min (a * c) (b * c) ≤ x * c ∧ x * c ≤ max (a * c) (b * c) := by
  rcases (Rat.le_total : (0 : Rat) ≤ c ∨ c ≤ 0) with h | h
  · exact ⟨Rat.le_trans (mn_l _ _) (Rat.mul_le_mul_of_nonneg_right h1 h), Rat.le_trans (Rat.mul_le_mul_of_nonneg_right h2 h) (mx_r _ _)⟩
  · have h3 : 0 ≤ -c := by grind
    have e1 := Rat.mul_le_mul_of_nonneg_right h1 h3
    have e2 := Rat.mul_le_mul_of_nonneg_right h2 h3
    rw [Rat.mul_neg, Rat.mul_neg] at e1 e2
    exact ⟨Rat.le_trans (mn_r _ _) (by grind), Rat.le_trans (by grind) (mx_l _ _)⟩
theorem mul_in {p q p' q' x y : Rat} (h1 : p ≤ x) (h2 : x ≤ q) (h3 : p' ≤ y) (h4 : y ≤ q') :
    min (min (p * p') (q * p')) (min (p * q') (q * q')) ≤ x * y ∧ x * y ≤ max (max (p * p') (q * p')) (max (p * q') (q * q')) := by
  obtain ⟨a1, a2⟩ := lin_in (c := y) h1 h2
  obtain ⟨b1, b2⟩ := lin_in (c := p) h3 h4
  obtain ⟨c1, c2⟩ := lin_in (c := q) h3 h4
  rw [Rat.mul_comm p' p, Rat.mul_comm q' p, Rat.mul_comm y p] at b1 b2
  rw [Rat.mul_comm p' q, Rat.mul_comm q' q, Rat.mul_comm y q] at c1 c2
  have m1 := mn_l (min (p * p') (q * p')) (min (p * q') (q * q'))
  have m2 := mn_r (min (p * p') (q * p')) (min (p * q') (q * q'))
  have m3 := mn_l (p * p') (q * p')
  have m4 := mn_r (p * p') (q * p')
  have m5 := mn_l (p * q') (q * q')
  have m6 := mn_r (p * q') (q * q')
  have n1 := mx_l (max (p * p') (q * p')) (max (p * q') (q * q'))
  have n2 := mx_r (max (p * p') (q * p')) (max (p * q') (q * q'))
  have n3 := mx_l (p * p') (q * p')
  have n4 := mx_r (p * p') (q * p')
  have n5 := mx_l (p * q') (q * q')
  have n6 := mx_r (p * q') (q * q')
  constructor
  · refine Rat.le_trans (le_mn ?_ ?_) a1
    · exact Rat.le_trans (le_mn (Rat.le_trans m1 m3) (Rat.le_trans m2 m5)) b1
    · exact Rat.le_trans (le_mn (Rat.le_trans m1 m4) (Rat.le_trans m2 m6)) c1
  · refine Rat.le_trans a2 (mx_le ?_ ?_)
    · exact Rat.le_trans b2 (mx_le (Rat.le_trans n3 n1) (Rat.le_trans n5 n2))
    · exact Rat.le_trans c2 (mx_le (Rat.le_trans n4 n1) (Rat.le_trans n6 n2))
theorem at_in {p q z : Rat} {o : Int} (hpq : p ≤ q) (ho : 0 ≤ o ∧ o < 256) (hz : p + ((o : Rat) / ((255 : Int) : Rat)) * (q - p) = z) : p ≤ z ∧ z ≤ q := by
  have h255 : (0 : Rat) < ((255 : Int) : Rat) := by decide +kernel
  obtain ⟨f, hf⟩ : ∃ f, (o : Rat) / ((255 : Int) : Rat) = f := ⟨_, rfl⟩
  have e : f * ((255 : Int) : Rat) = (o : Rat) := by rw [← hf]; exact Rat.div_mul_cancel (Rat.ne_of_gt h255)
  have f0 : 0 ≤ f := by
    refine Rat.le_of_mul_le_mul_right (c := ((255 : Int) : Rat)) ?_ h255
    rw [e, Rat.zero_mul]
    exact Rat.intCast_nonneg.2 ho.1
  have f1 : f ≤ 1 := by
    refine Rat.le_of_mul_le_mul_right (c := ((255 : Int) : Rat)) ?_ h255
    rw [e, Rat.one_mul]
    exact Rat.intCast_le_intCast.2 (by omega)
  rw [hf] at hz
  have hd : 0 ≤ q - p := by grind
  have m0 := Rat.mul_le_mul_of_nonneg_right f0 hd
  have m1 := Rat.mul_le_mul_of_nonneg_right f1 hd
  rw [Rat.zero_mul] at m0
  rw [Rat.one_mul] at m1
  rw [← hz]
  exact ⟨by grind, by grind⟩
theorem at_size {p q z : Rat} {o : Int} (ho : 0 ≤ o ∧ o < 256) (sp : Qs 2 p) (sq : Qs 2 q) (hz : p + ((o : Rat) / ((255 : Int) : Rat)) * (q - p) = z) : Qs 9 z := by
  rw [← hz]
  have h1 : Qs 5 (q - p) := size_sub sq sp
  have h2 : Qs 6 (((o : Rat) / ((255 : Int) : Rat)) * (q - p)) := size_mul (frac_qs o ho) h1
  exact size_add sp h2
theorem vx_of {w : World} {u v : Rv} {xs ys xs' ys' : List Nat} (hu : Rx w u xs ys) (hv : Rx w v xs' ys') (lu : Lu 2 u) (lv : Lu 2 v) (h : (isC u.s xs ys && isC v.s xs' ys' && decide (rv u.s xs ys ≤ rv v.s xs' ys')) = true) :
    ∃ p q, Cu w u p ∧ Cu w v q ∧ p ≤ q ∧ Qs 2 p ∧ Qs 2 q := by
  simp only [Bool.and_eq_true, decide_eq_true_eq] at h
  have c1 := hu.cu h.1.1
  have c2 := hv.cu h.1.2
  exact ⟨_, _, c1, c2, h.2, c1.iu.size lu (by decide), c2.iu.size lv (by decide)⟩
theorem qs_lit2 {q : Rat} (h : decide (q.num.natAbs < 4294967296 ∧ q.den < 4294967296) = true) : Qs 2 q := by
  have := of_decide_eq_true h
  have h1 : pw 1 ≤ pw 2 := pw_mono (by decide)
  have h2 : pw 1 = 4294967296 := rfl
  exact ⟨by omega, by omega⟩
theorem mx_mono {a b c : Rat} (h : a ≤ b) : max a c ≤ max b c := mx_le (Rat.le_trans h (mx_l _ _)) (mx_r _ _)
theorem mn_mono {a b c : Rat} (h : a ≤ b) : min a c ≤ min b c := le_mn (Rat.le_trans (mn_l _ _) h) (mn_r _ _)
theorem both_in (p q p' q' X : Rat) : (decide (max p p' ≤ X) && decide (X ≤ min q q')) = ((decide (p ≤ X) && decide (X ≤ q)) && (decide (p' ≤ X) && decide (X ≤ q'))) := by
  rw [Bool.eq_iff_iff]
  simp only [Bool.and_eq_true, decide_eq_true_eq]
  constructor
  · rintro ⟨h1, h2⟩
    exact ⟨⟨Rat.le_trans (mx_l _ _) h1, Rat.le_trans h2 (mn_l _ _)⟩, Rat.le_trans (mx_r _ _) h1, Rat.le_trans h2 (mn_r _ _)⟩
  · rintro ⟨⟨h1, h2⟩, h3, h4⟩
    exact ⟨mx_le h1 h3, le_mn h2 h4⟩
theorem both_no {p q p' q' X : Rat} (h : ¬ max p p' ≤ min q q') : ((decide (p ≤ X) && decide (X ≤ q)) && (decide (p' ≤ X) && decide (X ≤ q'))) = false := by
  rw [← both_in, ← Bool.not_eq_true]
  simp only [Bool.and_eq_true, decide_eq_true_eq]
  rintro ⟨h1, h2⟩
  exact h (Rat.le_trans h1 h2)
theorem qs_neg {k : Nat} {q : Rat} (h : Qs k q) : Qs k (-q) := by
  refine ⟨?_, h.2⟩
  have h1 := h.1
  rw [show (-q).num = -q.num from rfl, Int.natAbs_neg]
  exact h1
/-- A region's states in any numbering: each is shown from those with less left to do. -/
theorem wpAnyH_ind {P : Program} {ops : Array Oper} {Q : Exit → Act → World → Prop} {md : Region.Mode} {S : World → Prop} {fuel : Nat} {listed : Array Bool} {a : Act} {w : World} {σ : Type} (N : σ → Nat) (Lf : σ → Array Bool) (I : Act → σ → Act → World → Prop) (s0 : σ) (hf : fuel = N s0) (hl : listed = Lf s0) (h0 : I a s0 a w)
    (step : ∀ s, (∀ s', N s' < N s → ∀ a' w', I a s' a' w' → wpAnyH P md ops Q S (N s') (Lf s') a' w') → ∀ a' w', I a s a' w' → wpAnyH P md ops Q S (N s) (Lf s) a' w') : wpAnyH P md ops Q S fuel listed a w := by
  subst hf hl
  have key : ∀ n s, N s = n → ∀ a' w', I a s a' w' → wpAnyH P md ops Q S (N s) (Lf s) a' w' := by
    intro n
    induction n using Nat.strongRecOn with
    | ind n ih =>
      intro s hs a' w' hI
      exact step s (fun s' hlt a2 w2 h2 => ih (N s') (by omega) s' rfl a2 w2 h2) a' w' hI
  exact key _ s0 rfl a w h0
end Go.Proofs.YtnddhohjfjlaiaaGreatDoor
