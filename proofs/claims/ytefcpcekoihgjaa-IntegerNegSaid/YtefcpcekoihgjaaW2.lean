/-
  The copies: copied, Make, and the specification's Make.
-/
import Derived.Test.YtefcpcekoihgjaaApp
import Derived.Test.YtefcpcekoihgjaaW1
namespace Go.Proofs.Ytefcpcekoihgjaa
open Go.RowKit
set_option linter.unusedVariables false
set_option linter.unusedSimpArgs false

/-- What a function hands back that makes a slice of limbs: the slice reads as xs, and what was there is as it was. -/
def Gives (w : World) (xs : List Nat) (e : Ending) (w' : World) : Prop := ∃ A c, e = .returned (.slice A xs.length c) ∧ Rd w' A xs.length c xs ∧ Below w.heap.size w w'

theorem make_calls (A : Option Addr) (n c : Nat) (xs : List Nat) (w : World) (h : Rd w A n c xs) (hn : n ≤ 1048576) :
    Calls Try.prog 36 #[.slice A n c] w (Gives w (dg (val xs))) := by
  have ht := tlen_le xs
  have hl := h.len
  have hsm := h.sm
  have HL := hide (len_dg_val hsm)
  have HD := hide (dg_val hsm)
  have htn : tlen xs ≤ 1048576 := by omega
  have hn4 : n ≤ 4194304 := by omega
  clear hl ht
  go_enter Try.func36, Try.ntmps36
  go_wp2_with (first
    | (go_at_call 56; refine (trim_calls A n c xs _ h hn4).mono ?_; rintro e w' ⟨A1, c1, rfl, rfl, hr1, _⟩)
    | (at_builtin; refine wpList_app rfl (.const (.slice none 0 0)) (.tmp 4) 23 23 rfl (.inr rfl) (.inr rfl) w.heap.size none 0 0 [] rfl (Own.nil _ _) A1 (tlen xs) c1 _ rfl hr1 (by omega) (by simp) ?_; intro A' c' w' hown hb))
  go_ret
  refine ⟨A', c', by rw [HL.out]; simp, ?_, hb⟩
  rw [HL.out, HD.out]
  simpa using hown.rd (by simpa using hsm.take _)

theorem rmake_calls (A : Option Addr) (n c : Nat) (xs : List Nat) (w : World) (h : Rd w A n c xs) (hn : n ≤ 4194304) :
    Calls Try.prog 38 #[.slice A n c] w (Gives w (dg (val xs))) := by
  have hcap := h.cap
  have hlen := h.len
  have HL := hide hlen
  clear hlen
  have h2 : Rd (w.alloc (.cells #[] 57)) A n c xs := h.below ((Below.refl _ _).alloc (Nat.le_refl _) _)
  go_enter Try.func38, Try.ntmps38
  go_wp2
  go_loop [3] (fun k => ∃ j : Nat, j ≤ n ∧ k = .int .i64 j ∧ Hid (∀ i, j ≤ i → lim xs i = 0)) (fun k => (intOf k).toNat)
  case atStart => exact ⟨n, Nat.le_refl _, rfl, fun i hi => lim_of_ge (by have := HL.out; omega)⟩
  case round =>
    obtain ⟨j, hj, rfl, hz⟩ := hrel
    have fin : tlen xs = j → ∀ A' c' w', Own w' w.heap.size A' (0 + j) c' ([] ++ xs.take j) → Below w.heap.size (w.alloc (.cells #[] 57)) w' → Gives w (dg (val xs)) (.returned (.slice A' (0 + j) c')) w' := by
      intro ht A' c' w' hown hb
      have e1 := dg_val h.sm
      have e2 := len_dg_val h.sm
      rw [ht] at e1 e2
      refine ⟨A', c', by rw [e2]; simp, ?_, ((Below.refl _ _).alloc (Nat.le_refl _) _).trans hb⟩
      rw [e2, e1]
      simpa using hown.rd (by simpa using h.sm.take _)
    have FIN := hide fin
    clear fin
    by_cases h0 : j = 0
    · have hd : decide ((0 : Int) < (j : Int)) = false := by simp; omega
      have hd2 : ¬ (0 : Int) < (j : Int) := by omega
      have H0 := hide h0
      clear h0
      have h3 := h2.take hj
      go_wp2_with (at_builtin; refine wpList_app rfl (.tmp 18) (.tmp 21) 23 22 rfl (.inr rfl) (.inl rfl) w.heap.size _ 0 0 [] rfl (Own.empty w _ (Nat.le_refl _)) _ j c _ rfl h3 (by omega) (by simp) ?_; intro A' c' w' hown hb)
      go_ret
      have h0 := H0.out
      subst h0
      exact FIN.out (tlen_of (fun k hk => hz.out k hk) (.inl rfl)) A' c' w' hown hb
    · have hl := h.sm.lim (j - 1)
      obtain ⟨b, off, rfl, hb, hc⟩ := h.get (k := j - 1) (by omega)
      have hd : (0 : Int) < j := by omega
      have h3 := h2.take hj
      go_wp2_with (at_builtin; refine wpList_app rfl (.tmp 18) (.tmp 21) 23 22 rfl (.inr rfl) (.inl rfl) w.heap.size _ 0 0 [] rfl (Own.empty w _ (Nat.le_refl _)) _ j c _ rfl h3 (by omega) (by simp) ?_; intro A' c' w' hown hb')
      · have ht : ((lim xs (j - 1) : Int) == 0) = true := by assumption
        go_round
        case rel =>
          refine ⟨j - 1, by omega, by go_num, fun i hi => ?_⟩
          by_cases he : i = j - 1
          · subst he; have := WalkArith.int_eq ht; omega
          · exact hz.out i (by omega)
        case measure => simp [intOf]; omega
      · have ht : ((lim xs (j - 1) : Int) == 0) = false := by assumption
        go_ret
        have := FIN.out (tlen_of (fun k hk => hz.out k hk) (.inr (by have := WalkArith.int_ne ht; omega))) A' c' w' hown hb'
        simpa using this
end Go.Proofs.Ytefcpcekoihgjaa
