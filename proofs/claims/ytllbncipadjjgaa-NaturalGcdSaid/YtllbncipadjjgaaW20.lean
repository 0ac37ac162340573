/-
  awake: the examples of the document hold.
-/
import Derived.Test.YtllbncipadjjgaaW19
import Derived.Test.YtllbncipadjjgaaW5
namespace Go.Proofs.Ytllbncipadjjgaa
open Go.RowKit
set_option linter.unusedVariables false
set_option linter.unusedSimpArgs false

theorem rd_lit (W : World) (cs : Array Value) (xs : List Nat) (n : Nat) (hc : cs = arr xs) (hs : Sm xs) (hn : xs.length = n) : Rd (W.alloc (.cells cs 42)) (some ⟨W.heap.size, 0, none⟩) n n xs := by
  subst hc
  exact blk_rd0 (Blk.new W _) hs hn (Nat.le_refl _)
theorem rd_alloc {W : World} {A : Option Addr} {n c : Nat} {xs : List Nat} (h : Rd W A n c xs) (o : Obj) : Rd (W.alloc o) A n c xs := h.below ((Below.refl _ _).alloc (Nat.le_refl _) o)
theorem rd_lit2 (W : World) (o : Obj) (cs : Array Value) (xs : List Nat) (n : Nat) (hc : cs = arr xs) (hs : Sm xs) (hn : xs.length = n) : Rd ((W.alloc o).alloc (.cells cs 42)) (some ⟨W.heap.size + 1, 0, none⟩) n n xs := by
  have := rd_lit (W.alloc o) cs xs n hc hs hn
  rwa [World.size_alloc] at this
theorem sm_01 : Sm [0, 1] := (Sm.nil.cons (by omega)).cons (by omega)
theorem sm_1 : Sm [1] := Sm.nil.cons (by omega)
theorem sm_001 : Sm [0, 0, 1] := sm_01.cons (by omega)
theorem sm_11 : Sm [1, 1] := sm_1.cons (by omega)
theorem sm_00 : Sm [0, 0] := (Sm.nil.cons (by omega)).cons (by omega)
theorem sm_max : Sm [4294967295] := Sm.nil.cons (by omega)
theorem sm_6 : Sm [6] := Sm.nil.cons (by omega)
def Gv (W : World) (xs : List Nat) (n : Nat) (e : Ending) (w' : World) : Prop := ∃ A c, e = .returned (.slice A n c) ∧ Rd w' A n c xs ∧ Below W.heap.size W w'
abbrev c0 : Value := .int .u32 0
abbrev c1 : Value := .int .u32 1
abbrev cm : Value := .int .u32 4294967295
theorem sub_const (W : World) : Calls Try.prog 30 #[.slice (some ⟨W.heap.size, 0, none⟩) 2 2, .slice (some ⟨W.heap.size + 1, 0, none⟩) 1 1] ((W.alloc (.cells #[c0, c1] 42)).alloc (.cells #[c1] 42)) fun e w' =>
    ∃ A c, e = .returned (.tuple #[.slice A 1 c, .int .i64 0]) ∧ Rd w' A 1 c [4294967295] ∧ Below W.heap.size W w' := by
  refine (sub_ge _ _ 2 1 2 1 [0, 1] [1] _ (rd_alloc (rd_lit W _ [0, 1] 2 rfl sm_01 rfl) _) (rd_lit2 W _ _ [1] 1 rfl sm_1 rfl) (by omega) (by omega) (by decide)).mono ?_
  have e1 : dg (val [0, 1] - val [1]) = [4294967295] := by
    rw [show val [0, 1] - val [1] = 4294967295 from by decide]
    exact dg_small (by omega) (by omega)
  rw [e1]
  rintro e w' ⟨A, c, rfl, hr, hb⟩
  exact ⟨A, c, rfl, hr, below_then (((Below.refl _ _).alloc (Nat.le_refl _) _).alloc (by simp) _) (Nat.le_refl _) hb⟩
theorem dm_const (W : World) : Calls Try.prog 38 #[.slice (some ⟨W.heap.size, 0, none⟩) 3 3, .slice (some ⟨W.heap.size + 1, 0, none⟩) 2 2] ((W.alloc (.cells #[c0, c0, c1] 42)).alloc (.cells #[c1, c1] 42)) fun e w' =>
    ∃ A c B d, e = .returned (.tuple #[.slice A 1 c, .slice B 1 d, .int .i64 0]) ∧ Rd w' A 1 c [4294967295] ∧ Rd w' B 1 d [1] ∧ Below W.heap.size W w' := by
  refine (divmod_calls _ _ 3 2 3 2 [0, 0, 1] [1, 1] _ (rd_alloc (rd_lit W _ [0, 0, 1] 3 rfl sm_001 rfl) _) (rd_lit2 W _ _ [1, 1] 2 rfl sm_11 rfl) (by omega) (by omega) (by decide)).mono ?_
  have e1 : dg (val [0, 0, 1] / val [1, 1]) = [4294967295] := by
    rw [show val [0, 0, 1] / val [1, 1] = 4294967295 from by decide]
    exact dg_small (by omega) (by omega)
  have e2 : dg (val [0, 0, 1] % val [1, 1]) = [1] := by
    rw [show val [0, 0, 1] % val [1, 1] = 1 from by decide]
    exact dg_small (by omega) (by omega)
  rw [e1, e2]
  rintro e w' ⟨A, c, B, d, rfl, hr, hr2, hb⟩
  exact ⟨A, c, B, d, rfl, hr, hr2, below_then (((Below.refl _ _).alloc (Nat.le_refl _) _).alloc (by simp) _) (Nat.le_refl _) hb⟩
theorem of_const (W : World) (i : Int) (k : Nat) (hi : i = k) (hk : k < 4294967296) (h0 : k ≠ 0) : Calls Try.prog 23 #[.int .u64 i] W (Gv W [k] 1) := by
  have := of_int i k W hi (by omega)
  rw [dg_small hk h0] at this
  exact this
theorem gcd_const (A B : Option Addr) (c d : Nat) (W : World) (h : Rd W A 1 c [12]) (h2 : Rd W B 1 d [18]) : Calls Try.prog 39 #[.slice A 1 c, .slice B 1 d] W (Gv W [6] 1) := by
  have e12 : dg 12 = [12] := dg_small (by omega) (by omega)
  have e18 : dg 18 = [18] := dg_small (by omega) (by omega)
  have := gcd_lt A B 1 1 c d [12] [18] W 12 18 h h2 (by omega) (by omega) rfl rfl (by omega) (by omega) (by rw [e12]; decide)
  rw [show Nat.gcd 12 18 = 6 from by decide, dg_small (by omega) (by omega)] at this
  exact this
theorem same_const (A : Option Addr) (c x : Nat) (i : Int) (W : World) (hi : i = (x : Int)) (h : Rd W A 1 c [x]) : Calls Try.prog 17 #[.slice A 1 c, .slice (some ⟨W.heap.size, 0, none⟩) 1 1] (W.alloc (.cells #[.int .u32 i] 42)) fun e w' => e = .returned (.bool true) ∧ Below W.heap.size W w' := by
  subst hi
  refine (same_calls A _ 1 c 1 [x] _ (rd_alloc h _) (rd_lit W _ [x] 1 rfl h.sm rfl) (by omega)).mono ?_
  rintro e w' ⟨rfl, q, rfl⟩
  exact ⟨rfl, below_drewN ((Below.refl _ _).alloc (Nat.le_refl _) _) q⟩
theorem bits_const (W : World) : Calls Try.prog 21 #[.slice (some ⟨W.heap.size, 0, none⟩) 2 2] (W.alloc (.cells #[c0, c1] 42)) fun e w' => e = .returned (.int .i64 33) ∧ Below W.heap.size W w' := by
  refine (bits_calls _ 2 2 [0, 1] _ 33 (by decide) (rd_lit W _ [0, 1] 2 rfl sm_01 rfl) (by omega)).mono ?_
  rintro e w' ⟨rfl, rfl⟩
  exact ⟨rfl, (Below.refl _ _).alloc (Nat.le_refl _) _⟩
theorem make_const (W : World) : Calls Try.prog 13 #[.slice (some ⟨W.heap.size, 0, none⟩) 2 2] (W.alloc (.cells #[c0, c0] 42)) fun e w' => ∃ A c, e = .returned (.slice A 0 c) ∧ Below W.heap.size W w' := by
  refine (make_calls _ 2 2 [0, 0] _ (rd_lit W _ [0, 0] 2 rfl sm_00 rfl) (by omega)).mono ?_
  rintro e w' ⟨A, c, rfl, hr, hb⟩
  exact ⟨A, c, rfl, below_then ((Below.refl _ _).alloc (Nat.le_refl _) _) (Nat.le_refl _) hb⟩

set_option maxHeartbeats 1000000 in
theorem awake_calls (w : World) : Calls Try.prog 12 #[] w fun e w' => e = .returned (.bool true) ∧ Below w.heap.size w w' := by
  go_enter Try.func12, Try.ntmps12
  go_wp2_with (first
    | (go_at_call 30; refine (sub_const w).mono ?_; rintro e w1 ⟨A1, k1, rfl, hr1, hb1⟩)
    | (go_at_call 38; refine (dm_const w1).mono ?_; rintro e w2 ⟨A2, k2, A3, k3, rfl, hr2, hr3, hb2⟩)
    | (go_at_call 23; (with_reducible refine (of_const w2 12 12 rfl (by omega) (by omega)).mono ?_); rintro e w3 ⟨A4, k4, rfl, hr4, hb3⟩)
    | (go_at_call 23; (with_reducible refine (of_const w3 18 18 rfl (by omega) (by omega)).mono ?_); rintro e w4 ⟨A5, k5, rfl, hr5, hb4⟩)
    | (go_at_call 39; refine (gcd_const _ _ _ _ w4 (hr4.below hb4) hr5).mono ?_; rintro e w5 ⟨A6, k6, rfl, hr6, hb5⟩))
  have hw5 : Below w.heap.size w w5 := below_then (below_then (below_then (below_then hb1 (Nat.le_refl _) hb2) (Nat.le_refl _) hb3) (Nat.le_refl _) hb4) (Nat.le_refl _) hb5
  have k1 := (((hr1.below hb2).below hb3).below hb4).below hb5
  have k2 := ((hr2.below hb3).below hb4).below hb5
  have k3 := ((hr3.below hb3).below hb4).below hb5
  clear hb1 hb2 hb3 hb4 hb5 hr1 hr2 hr3 hr4 hr5
  refine (same_const A1 _ 4294967295 _ w5 rfl k1).mono ?_
  rintro e w6 ⟨rfl, hb6⟩
  go_wp2_with fail
  refine (same_const A2 _ 4294967295 _ w6 rfl (k2.below hb6)).mono ?_
  rintro e w7 ⟨rfl, hb7⟩
  go_wp2_with fail
  refine (same_const A3 _ 1 _ w7 rfl ((k3.below hb6).below hb7)).mono ?_
  rintro e w8 ⟨rfl, hb8⟩
  go_wp2_with fail
  refine (same_const A6 _ 6 _ w8 rfl (((hr6.below hb6).below hb7).below hb8)).mono ?_
  rintro e w9 ⟨rfl, hb9⟩
  go_wp2_with fail
  refine (bits_const w9).mono ?_
  rintro e w10 ⟨rfl, hb10⟩
  go_wp2_with fail
  refine (make_const w10).mono ?_
  rintro e w11 ⟨A7, c7, rfl, hb11⟩
  go_wp2
  go_ret
  exact ⟨rfl, below_then (below_then (below_then (below_then (below_then (below_then hw5 (Nat.le_refl _) hb6) (Nat.le_refl _) hb7) (Nat.le_refl _) hb8) (Nat.le_refl _) hb9) (Nat.le_refl _) hb10) (Nat.le_refl _) hb11⟩
end Go.Proofs.Ytllbncipadjjgaa
