/-
  The specification's Add and Sub.
-/
import Derived.Test.YtefcpcekoihgjaaW7
import Derived.Test.YtefcpcekoihgjaaW5
namespace Go.Proofs.Ytefcpcekoihgjaa
open Go.RowKit
set_option linter.unusedVariables false
set_option linter.unusedSimpArgs false

theorem val_snoc (L : List Nat) (v : Nat) : val (L ++ [v]) = val L + pw L.length * v := by
  rw [val_append]
  simp [val]
theorem Sm.snoc {L : List Nat} (h : Sm L) {v : Nat} (hv : v < 4294967296) : Sm (L ++ [v]) := fun y hy => by
  rcases List.mem_append.1 hy with hy | hy
  · exact h y hy
  · rw [List.mem_singleton.1 hy]; exact hv
theorem Own.below {w w' : World} {base : Nat} {A : Option Addr} {n c : Nat} {xs : List Nat} (h : Own w base A n c xs) (hb : Below w.heap.size w w') : Own w' base A n c xs :=
  World.ownsRow.kept (row := none) h ⟨hb.os, hb.tape, hb.output, hb.size, fun k hk _ => hb.block k hk⟩ (by
    cases hv : (Value.slice A n c).ownBlock with
    | none => exact .inl rfl
    | some g => exact .inr (by simp))
def AlInv (L xs ys : List Nat) (k cc : Nat) : Prop := L.length = k ∧ Sm L ∧ val L + pw k * cc = pv xs k + pv ys k
theorem al_step {L xs ys : List Nat} {k cc t : Nat} (ht : t = cc + (lim xs k + lim ys k)) (h : AlInv L xs ys k cc) : AlInv (L ++ [t % 4294967296]) xs ys (k + 1) (t / 4294967296) := by
  obtain ⟨h1, h2, h3⟩ := h
  refine ⟨by simp [h1], h2.snoc (by omega), ?_⟩
  rw [val_snoc, h1, pv_succ, pv_succ, pw]
  have e : pw k * t = pw k * (t % 4294967296) + pw k * (4294967296 * (t / 4294967296)) := by rw [← Nat.mul_add, Nat.mod_add_div]
  have e2 : pw k * t = pw k * cc + (pw k * lim xs k + pw k * lim ys k) := by rw [ht, Nat.mul_add, Nat.mul_add]
  rw [← Nat.mul_assoc (pw k) 4294967296, Nat.mul_comm (pw k) 4294967296] at e
  omega
theorem al_end {L xs ys : List Nat} {k cc : Nat} (hx : xs.length ≤ k) (hy : ys.length ≤ k) (h : AlInv L xs ys k cc) : val (L ++ [cc]) = val xs + val ys := by
  obtain ⟨h1, h2, h3⟩ := h
  rw [val_snoc, h1, h3, pv_len hx, pv_len hy]
theorem radd_calls (A B : Option Addr) (n m c d : Nat) (xs ys : List Nat) (w : World) (h : Rd w A n c xs) (h2 : Rd w B m d ys) (hn : n ≤ 1048576) (hm : m ≤ 1048576) :
    Calls Try.prog 49 #[.slice A n c, .slice B m d] w (Gives w (dg (val xs + val ys))) := by
  have HL := hide (And.intro h.len h2.len)
  go_enter Try.func49, Try.ntmps49
  go_wp2
  go_loopw [5, 6, 7] (fun o cy i wr => ∃ (k cc : Nat) (A1 : Option Addr) (c1 : Nat) (L : List Nat), k ≤ max n m ∧ i = .int .i64 k ∧ cy = .int .u64 cc ∧ cc ≤ 1 ∧ o = .slice A1 k c1 ∧ Own wr w.heap.size A1 k c1 L ∧ Below w.heap.size w wr ∧ Hid (AlInv L xs ys k cc)) (fun _ _ i _ => max n m - (intOf i).toNat)
  case atStart => exact ⟨0, 0, none, 0, [], by omega, rfl, rfl, by omega, rfl, Own.nil _ _, Below.refl _ _, ⟨rfl, Sm.nil, by simp [val, pv_zero]⟩⟩
  case round =>
    obtain ⟨k, cc, A1, c1, L, hk, rfl, rfl, hcc, rfl, hown, hb, HI⟩ := hrel
    have hx := h.sm.lim k
    have hy := h2.sm.lim k
    have hr1 := h.below hb
    have hr2 := h2.below hb
    have hbs := hb.size
    by_cases hkn : k < max n m
    · obtain ⟨t, ht⟩ : ∃ t, t = cc + (lim xs k + lim ys k) := ⟨_, rfl⟩
      have ht1 : (cc : Int) + ((lim xs k : Int) + (lim ys k : Int)) = (t : Int) := by omega
      have htb : t ≤ 8589934591 := by omega
      obtain ⟨v, hv⟩ : ∃ v, v = t % 4294967296 := ⟨_, rfl⟩
      have hv1 : (t : Int) % 4294967296 = (v : Int) := by omega
      have hv2 : v < 4294967296 := by omega
      have hst := al_step ht HI.out
      rw [← hv] at hst
      have HS := hide hst
      clear hst hv ht
      by_cases c1' : k < n
      · have e1 : decide ((k : Int) < (n : Int)) = true := by simp; omega
        go_wp2_with (first
          | (go_at_call 55; (with_reducible refine (rlimb_calls A _ _ _ _ k hr1).mono ?_); rintro e w' ⟨rfl, rfl⟩)
          | (go_at_call 55; (with_reducible refine (rlimb_calls B _ _ _ _ k hr2).mono ?_); rintro e w' ⟨rfl, rfl⟩)
          | (at_builtin; refine wpList_app rfl (.tmp 31) (.tmp 34) 22 22 rfl (.inl rfl) (.inl rfl) w.heap.size A1 k c1 L rfl (hown.alloc _) _ 1 1 [v] rfl (rd_one _ v hv2) (by omega) (by simp; omega) ?_; intro A' c' w' hown' hb'))
        go_roundw
        case rel => exact ⟨k + 1, t / 4294967296, A', c', L ++ [v], by omega, by go_num, by go_num, by omega, rfl, hown', (hb.alloc hbs _).trans hb', HS⟩
        case measure => simp [intOf]; omega
      · have e1 : decide ((k : Int) < (n : Int)) = false := by simp; omega
        have e2 : decide ((k : Int) < (m : Int)) = true := by simp; omega
        go_wp2_with (first
          | (go_at_call 55; (with_reducible refine (rlimb_calls A _ _ _ _ k hr1).mono ?_); rintro e w' ⟨rfl, rfl⟩)
          | (go_at_call 55; (with_reducible refine (rlimb_calls B _ _ _ _ k hr2).mono ?_); rintro e w' ⟨rfl, rfl⟩)
          | (at_builtin; refine wpList_app rfl (.tmp 31) (.tmp 34) 22 22 rfl (.inl rfl) (.inl rfl) w.heap.size A1 k c1 L rfl (hown.alloc _) _ 1 1 [v] rfl (rd_one _ v hv2) (by omega) (by simp; omega) ?_; intro A' c' w' hown' hb'))
        go_roundw
        case rel => exact ⟨k + 1, t / 4294967296, A', c', L ++ [v], by omega, by go_num, by go_num, by omega, rfl, hown', (hb.alloc hbs _).trans hb', HS⟩
        case measure => simp [intOf]; omega
    · have e1 : decide ((k : Int) < (n : Int)) = false := by simp; omega
      have e2 : decide ((k : Int) < (m : Int)) = false := by simp; omega
      have HE := hide (al_end (by have := HL.out.1; omega) (by have := HL.out.2; omega) HI.out)
      have hs1 : Sm (L ++ [cc]) := HI.out.2.1.snoc (by omega)
      have hk4 : k ≤ 1048576 := by omega
      have hb2 : ∀ o, Below w.heap.size w (wr.alloc o) := fun o => hb.alloc hbs o
      go_wp2_with (first
          | (at_builtin; refine wpList_app rfl (.tmp 38) (.tmp 41) 22 22 rfl (.inl rfl) (.inl rfl) w.heap.size A1 k c1 L rfl (hown.alloc _) _ 1 1 [cc] rfl (rd_one _ cc (by omega)) (by omega) (by simp; omega) ?_; intro A' c' w' hown' hb')
          | (go_at_call 38; refine (rmake_at _ _ _ _ _ _ HE.out (hown'.rd hs1) (by omega)).mono ?_; rintro e w2 ⟨A2, c2, rfl, hr, hb3⟩))
      go_ret
      exact ⟨A2, c2, rfl, hr, below_then ((hb2 _).trans hb') (Nat.le_refl _) hb3⟩
def SlInv (L xs ys : List Nat) (k bw : Nat) : Prop := L.length = k ∧ Sm L ∧ val L + pv ys k = pv xs k + pw k * bw
theorem sl_step {L xs ys : List Nat} {k bw v q : Nat} (hv : v < 4294967296) (hvq : v + lim ys k + bw = lim xs k + 4294967296 * q) (h : SlInv L xs ys k bw) : SlInv (L ++ [v]) xs ys (k + 1) q := by
  obtain ⟨h1, h2, h3⟩ := h
  refine ⟨by simp [h1], h2.snoc hv, ?_⟩
  rw [val_snoc, h1, pv_succ ys, pv_succ xs, pw]
  have e : pw k * (v + lim ys k + bw) = pw k * (lim xs k + 4294967296 * q) := by rw [hvq]
  rw [Nat.mul_add, Nat.mul_add, Nat.mul_add, ← Nat.mul_assoc, Nat.mul_comm (pw k) 4294967296] at e
  omega
theorem sl_end {L xs ys : List Nat} {bw n : Nat} (hx : xs.length = n) (hsx : Sm xs) (hle : val ys ≤ val xs) (h : SlInv L xs ys n bw) : val L = val xs - val ys := by
  obtain ⟨h1, h2, h3⟩ := h
  exact sub_end (S := L) hx hsx hle ⟨h1, h2, by rw [pv_len (by omega)]; exact h3⟩
theorem rsub_lt (A B : Option Addr) (n m c d : Nat) (xs ys : List Nat) (w : World) (h : Rd w A n c xs) (h2 : Rd w B m d ys) (hn : n ≤ 1048576) (hm : m ≤ 1048576) (hlt : val xs < val ys) :
    Calls Try.prog 50 #[.slice A n c, .slice B m d] w (GivesE w [] 2) := by
  have hs := sg_lt hlt
  go_enter Try.func50, Try.ntmps50
  go_wp2_with (go_at_call 33; refine (rcmp_calls A B n m c d xs ys _ (-1) h h2 hn hm hs).mono ?_; rintro e w' ⟨rfl, rfl⟩)
  go_ret2
  exact ⟨none, 0, rfl, Rd.empty _ _ _, Below.refl _ _⟩
theorem rsub_ge (A B : Option Addr) (n m c d : Nat) (xs ys : List Nat) (w : World) (h : Rd w A n c xs) (h2 : Rd w B m d ys) (hn : n ≤ 1048576) (hm : m ≤ 1048576) (hle : val ys ≤ val xs) :
    Calls Try.prog 50 #[.slice A n c, .slice B m d] w (GivesE w (dg (val xs - val ys)) 0) := by
  obtain ⟨r, hr, hr0⟩ : ∃ r, sg (val xs) (val ys) = r ∧ 0 ≤ r := ⟨_, rfl, by unfold sg; rw [if_neg (by omega)]; split <;> omega⟩
  have HR := hide hr
  have HL := hide (And.intro h.len hle)
  clear hr hle
  go_enter Try.func50, Try.ntmps50
  go_wp2_with (go_at_call 33; refine (rcmp_calls A B n m c d xs ys _ r h h2 hn hm HR.out).mono ?_; rintro e w' ⟨rfl, rfl⟩)
  go_loopw [6, 7, 8] (fun o cy i wr => ∃ (k bw : Nat) (A1 : Option Addr) (c1 : Nat) (L : List Nat), k ≤ n ∧ i = .int .i64 k ∧ cy = .int .u64 bw ∧ bw ≤ 1 ∧ o = .slice A1 k c1 ∧ Own wr w.heap.size A1 k c1 L ∧ Below w.heap.size w wr ∧ Hid (SlInv L xs ys k bw)) (fun _ _ i _ => n - (intOf i).toNat)
  case atStart => exact ⟨0, 0, none, 0, [], by omega, rfl, rfl, by omega, rfl, Own.nil _ _, Below.refl _ _, ⟨rfl, Sm.nil, by simp [val, pv_zero]⟩⟩
  case round =>
    obtain ⟨k, bw, A1, c1, L, hk, rfl, rfl, hbw, rfl, hown, hb, HI⟩ := hrel
    have hx := h.sm.lim k
    have hy := h2.sm.lim k
    have hr1 := h.below hb
    have hr2 := h2.below hb
    have hbs := hb.size
    by_cases hkn : k < n
    · by_cases hlt : lim xs k < lim ys k + bw
      · have e1 : (lim xs k : Int) < (lim ys k : Int) + (bw : Int) := by omega
        obtain ⟨v, hv⟩ : ∃ v, v = lim xs k + 4294967296 - (lim ys k + bw) := ⟨_, rfl⟩
        have hv1 : ((lim xs k : Int) + 4294967296 - ((lim ys k : Int) + (bw : Int))) = (v : Int) := by omega
        have hv2 : v < 4294967296 := by omega
        have HS := hide (sl_step (q := 1) hv2 (by omega) HI.out)
        clear hv
        go_wp2_with (first
          | (go_at_call 55; (with_reducible refine (rlimb_calls A _ _ _ _ k hr1).mono ?_); rintro e w' ⟨rfl, rfl⟩)
          | (go_at_call 55; (with_reducible refine (rlimb_calls B _ _ _ _ k hr2).mono ?_); rintro e w' ⟨rfl, rfl⟩)
          | (at_builtin; refine wpList_app rfl (.tmp 36) (.tmp 41) 22 22 rfl (.inl rfl) (.inl rfl) w.heap.size A1 k c1 L rfl (hown.alloc _) _ 1 1 [v] rfl (rd_one _ v hv2) (by omega) (by simp; omega) ?_; intro A' c' w' hown' hb'))
        go_roundw
        case rel => exact ⟨k + 1, 1, A', c', L ++ [v], by omega, by go_num, by go_num, by omega, rfl, hown', (hb.alloc hbs _).trans hb', HS⟩
        case measure => simp [intOf]; omega
      · have e1 : ¬ (lim xs k : Int) < (lim ys k : Int) + (bw : Int) := by omega
        obtain ⟨v, hv⟩ : ∃ v, v = lim xs k - (lim ys k + bw) := ⟨_, rfl⟩
        have hv1 : ((lim xs k : Int) - ((lim ys k : Int) + (bw : Int))) = (v : Int) := by omega
        have hv2 : v < 4294967296 := by omega
        have HS := hide (sl_step (q := 0) hv2 (by omega) HI.out)
        clear hv
        go_wp2_with (first
          | (go_at_call 55; (with_reducible refine (rlimb_calls A _ _ _ _ k hr1).mono ?_); rintro e w' ⟨rfl, rfl⟩)
          | (go_at_call 55; (with_reducible refine (rlimb_calls B _ _ _ _ k hr2).mono ?_); rintro e w' ⟨rfl, rfl⟩)
          | (at_builtin; refine wpList_app rfl (.tmp 36) (.tmp 41) 22 22 rfl (.inl rfl) (.inl rfl) w.heap.size A1 k c1 L rfl (hown.alloc _) _ 1 1 [v] rfl (rd_one _ v hv2) (by omega) (by simp; omega) ?_; intro A' c' w' hown' hb'))
        go_roundw
        case rel => exact ⟨k + 1, 0, A', c', L ++ [v], by omega, by go_num, by go_num, by omega, rfl, hown', (hb.alloc hbs _).trans hb', HS⟩
        case measure => simp [intOf]; omega
    · obtain rfl : n = k := by omega
      have HE := hide (sl_end HL.out.1 h.sm HL.out.2 HI.out)
      have hs1 := HI.out.2.1
      go_wp2_with (go_at_call 38; refine (rmake_at _ _ _ _ _ _ HE.out (hown.rd hs1) (by omega)).mono ?_; rintro e w2 ⟨A2, c2, rfl, hr, hb3⟩)
      go_ret2
      exact ⟨A2, c2, rfl, hr, below_then hb (Nat.le_refl _) hb3⟩
end Go.Proofs.Ytefcpcekoihgjaa
