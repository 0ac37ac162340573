/-
  The specification's Make and Sub, whose results are new.
-/
import Derived.Test.YtefcpcekoihgjaaW21
namespace Go.Proofs.Ytefcpcekoihgjaa
open Go.RowKit
set_option linter.unusedVariables false
set_option linter.unusedSimpArgs false

/-- The slice lies in memory that is not older than B. -/
def Fresh (B : Nat) (A : Option Addr) (n : Nat) : Prop := 0 < n → ∀ ad, A = some ad → B ≤ ad.block
theorem Own.fresh {w : World} {base : Nat} {A : Option Addr} {n c : Nat} {xs : List Nat} (h : Own w base A n c xs) : Fresh base A n := fun hn ad had => by
  obtain ⟨g, cap, hv, hg, hlt⟩ := h.form hn
  have hA : A = some ⟨g, 0, none⟩ := by injection hv
  rw [hA] at had
  injection had with had
  rw [← had]
  exact hg
def GivesF (w : World) (xs : List Nat) (e : Ending) (w' : World) : Prop := ∃ A c, e = .returned (.slice A xs.length c) ∧ Rd w' A xs.length c xs ∧ Below w.heap.size w w' ∧ Fresh w.heap.size A xs.length
def GivesEF (w : World) (xs : List Nat) (r : Int) (e : Ending) (w' : World) : Prop := ∃ A c, e = .returned (.tuple #[.slice A xs.length c, .int .i64 r]) ∧ Rd w' A xs.length c xs ∧ Below w.heap.size w w' ∧ Fresh w.heap.size A xs.length
theorem rmake_new (A : Option Addr) (n c : Nat) (xs : List Nat) (w : World) (h : Rd w A n c xs) (hn : n ≤ 4194304) :
    Calls Try.prog 38 #[.slice A n c] w (GivesF w (dg (val xs))) := by
  have hcap := h.cap
  have hlen := h.len
  have HL := hide hlen
  clear hlen
  have h2 : Rd (w.alloc (.cells #[] 57)) A n c xs := h.below ((Below.refl _ _).alloc (Nat.le_refl _) _)
  go_enter Try.func38, Try.ntmps38
  go_wp2
  go_loop [3] (fun k => ∃ j : Nat, j ≤ n ∧ k = .int .i64 j ∧ Hid (∀ i, j ≤ i → lim xs i = 0)) (fun k => (intOf k).toNat)
  case atStart => exact ⟨n, Nat.le_refl _, rfl, fun i hi => lim_of_ge (by have := HL.out; omega)⟩
  case round =>
    obtain ⟨j, hj, rfl, hz⟩ := hrel
    have fin : tlen xs = j → ∀ A' c' w', Own w' w.heap.size A' (0 + j) c' ([] ++ xs.take j) → Below w.heap.size (w.alloc (.cells #[] 57)) w' → GivesF w (dg (val xs)) (.returned (.slice A' (0 + j) c')) w' := by
      intro ht A' c' w' hown hb
      have e1 := dg_val h.sm
      have e2 := len_dg_val h.sm
      rw [ht] at e1 e2
      refine ⟨A', c', by rw [e2]; simp, ?_, ((Below.refl _ _).alloc (Nat.le_refl _) _).trans hb, by rw [e2]; simpa using hown.fresh⟩
      rw [e2, e1]
      simpa using hown.rd (by simpa using h.sm.take _)
    have FIN := hide fin
    clear fin
    by_cases h0 : j = 0
    · have hd : decide ((0 : Int) < (j : Int)) = false := by simp; omega
      have hd2 : ¬ (0 : Int) < (j : Int) := by omega
      have H0 := hide h0
      clear h0
      have h3 := h2.take hj
      go_wp2_with (at_builtin; refine wpList_app rfl (.tmp 18) (.tmp 21) 23 22 rfl (.inr rfl) (.inl rfl) w.heap.size _ 0 0 [] rfl (Own.empty w _ (Nat.le_refl _)) _ j c _ rfl h3 (by omega) (by simp) ?_; intro A' c' w' hown hb)
      go_ret
      have h0 := H0.out
      subst h0
      exact FIN.out (tlen_of (fun k hk => hz.out k hk) (.inl rfl)) A' c' w' hown hb
    · have hl := h.sm.lim (j - 1)
      obtain ⟨b, off, rfl, hb, hc⟩ := h.get (k := j - 1) (by omega)
      have hd : (0 : Int) < j := by omega
      have h3 := h2.take hj
      go_wp2_with (at_builtin; refine wpList_app rfl (.tmp 18) (.tmp 21) 23 22 rfl (.inr rfl) (.inl rfl) w.heap.size _ 0 0 [] rfl (Own.empty w _ (Nat.le_refl _)) _ j c _ rfl h3 (by omega) (by simp) ?_; intro A' c' w' hown hb')
      · have ht : ((lim xs (j - 1) : Int) == 0) = true := by assumption
        go_round
        case rel =>
          refine ⟨j - 1, by omega, by go_num, fun i hi => ?_⟩
          by_cases he : i = j - 1
          · subst he; have := WalkArith.int_eq ht; omega
          · exact hz.out i (by omega)
        case measure => simp [intOf]; omega
      · have ht : ((lim xs (j - 1) : Int) == 0) = false := by assumption
        go_ret
        have := FIN.out (tlen_of (fun k hk => hz.out k hk) (.inr (by have := WalkArith.int_ne ht; omega))) A' c' w' hown hb'
        simpa using this
theorem rmake_newat (A : Option Addr) (n c : Nat) (xs : List Nat) (w : World) (X : Nat) (hX : val xs = X) (h : Rd w A n c xs) (hn : n ≤ 4194304) : Calls Try.prog 38 #[.slice A n c] w (GivesF w (dg X)) := by
  subst hX
  exact rmake_new A n c xs w h hn
theorem rsub_new (A B : Option Addr) (n m c d : Nat) (xs ys : List Nat) (w : World) (h : Rd w A n c xs) (h2 : Rd w B m d ys) (hn : n ≤ 1048576) (hm : m ≤ 1048576) (hle : val ys ≤ val xs) :
    Calls Try.prog 50 #[.slice A n c, .slice B m d] w (GivesEF w (dg (val xs - val ys)) 0) := by
  obtain ⟨r, hr, hr0⟩ : ∃ r, sg (val xs) (val ys) = r ∧ 0 ≤ r := ⟨_, rfl, by unfold sg; rw [if_neg (by omega)]; split <;> omega⟩
  have HR := hide hr
  have HL := hide (And.intro h.len hle)
  clear hr hle
  go_enter Try.func50, Try.ntmps50
  go_wp2_with (go_at_call 33; refine (rcmp_calls A B n m c d xs ys _ r h h2 hn hm HR.out).mono ?_; rintro e w' ⟨rfl, rfl⟩)
  go_loopw [6, 7, 8] (fun o cy i wr => ∃ (k bw : Nat) (A1 : Option Addr) (c1 : Nat) (L : List Nat), k ≤ n ∧ i = .int .i64 k ∧ cy = .int .u64 bw ∧ bw ≤ 1 ∧ o = .slice A1 k c1 ∧ Own wr w.heap.size A1 k c1 L ∧ Below w.heap.size w wr ∧ Hid (SlInv L xs ys k bw)) (fun _ _ i _ => n - (intOf i).toNat)
  case atStart => exact ⟨0, 0, none, 0, [], by omega, rfl, rfl, by omega, rfl, Own.nil _ _, Below.refl _ _, ⟨rfl, Sm.nil, by simp [val, pv_zero]⟩⟩
  case round =>
    obtain ⟨k, bw, A1, c1, L, hk, rfl, rfl, hbw, rfl, hown, hb, HI⟩ := hrel
    have hx := h.sm.lim k
    have hy := h2.sm.lim k
    have hr1 := h.below hb
    have hr2 := h2.below hb
    have hbs := hb.size
    by_cases hkn : k < n
    · by_cases hlt : lim xs k < lim ys k + bw
      · have e1 : (lim xs k : Int) < (lim ys k : Int) + (bw : Int) := by omega
        obtain ⟨v, hv⟩ : ∃ v, v = lim xs k + 4294967296 - (lim ys k + bw) := ⟨_, rfl⟩
        have hv1 : ((lim xs k : Int) + 4294967296 - ((lim ys k : Int) + (bw : Int))) = (v : Int) := by omega
        have hv2 : v < 4294967296 := by omega
        have HS := hide (sl_step (q := 1) hv2 (by omega) HI.out)
        clear hv
        go_wp2_with (first
          | (go_at_call 55; (with_reducible refine (rlimb_calls A _ _ _ _ k hr1).mono ?_); rintro e w' ⟨rfl, rfl⟩)
          | (go_at_call 55; (with_reducible refine (rlimb_calls B _ _ _ _ k hr2).mono ?_); rintro e w' ⟨rfl, rfl⟩)
          | (at_builtin; refine wpList_app rfl (.tmp 36) (.tmp 41) 22 22 rfl (.inl rfl) (.inl rfl) w.heap.size A1 k c1 L rfl (hown.alloc _) _ 1 1 [v] rfl (rd_one _ v hv2) (by omega) (by simp; omega) ?_; intro A' c' w' hown' hb'))
        go_roundw
        case rel => exact ⟨k + 1, 1, A', c', L ++ [v], by omega, by go_num, by go_num, by omega, rfl, hown', (hb.alloc hbs _).trans hb', HS⟩
        case measure => simp [intOf]; omega
      · have e1 : ¬ (lim xs k : Int) < (lim ys k : Int) + (bw : Int) := by omega
        obtain ⟨v, hv⟩ : ∃ v, v = lim xs k - (lim ys k + bw) := ⟨_, rfl⟩
        have hv1 : ((lim xs k : Int) - ((lim ys k : Int) + (bw : Int))) = (v : Int) := by omega
        have hv2 : v < 4294967296 := by omega
        have HS := hide (sl_step (q := 0) hv2 (by omega) HI.out)
        clear hv
        go_wp2_with (first
          | (go_at_call 55; (with_reducible refine (rlimb_calls A _ _ _ _ k hr1).mono ?_); rintro e w' ⟨rfl, rfl⟩)
          | (go_at_call 55; (with_reducible refine (rlimb_calls B _ _ _ _ k hr2).mono ?_); rintro e w' ⟨rfl, rfl⟩)
          | (at_builtin; refine wpList_app rfl (.tmp 36) (.tmp 41) 22 22 rfl (.inl rfl) (.inl rfl) w.heap.size A1 k c1 L rfl (hown.alloc _) _ 1 1 [v] rfl (rd_one _ v hv2) (by omega) (by simp; omega) ?_; intro A' c' w' hown' hb'))
        go_roundw
        case rel => exact ⟨k + 1, 0, A', c', L ++ [v], by omega, by go_num, by go_num, by omega, rfl, hown', (hb.alloc hbs _).trans hb', HS⟩
        case measure => simp [intOf]; omega
    · obtain rfl : n = k := by omega
      have HE := hide (sl_end HL.out.1 h.sm HL.out.2 HI.out)
      have hs1 := HI.out.2.1
      go_wp2_with (go_at_call 38; refine (rmake_newat _ _ _ _ _ _ HE.out (hown.rd hs1) (by omega)).mono ?_; rintro e w2 ⟨A2, c2, rfl, hr, hb3, hfr⟩)
      go_ret2
      exact ⟨A2, c2, rfl, hr, below_then hb (Nat.le_refl _) hb3, fun hl ad had => Nat.le_trans hb.size (hfr hl ad had)⟩
theorem Rd.store {w : World} {A : Option Addr} {n c : Nat} {xs : List Nat} (h : Rd w A n c xs) {G B : Nat} (hf : Fresh B A n) (hG : G < B) (i : Nat) (v : Value) : Rd (w.setCell ⟨G, i, none⟩ v) A n c xs :=
  ⟨h.len, h.sm, h.cap, fun hn => by
    obtain ⟨b, off, hA, hb, hc⟩ := h.at_ hn
    have := hf hn _ hA
    refine ⟨b, off, hA, by simpa [World.setCell] using hb, fun k hk => ?_⟩
    rw [← hc k hk]
    exact World.cell?_of_block (Below.heap_setCell w _ v b (by show b ≠ G; simp at this; omega))⟩
end Go.Proofs.Ytefcpcekoihgjaa
