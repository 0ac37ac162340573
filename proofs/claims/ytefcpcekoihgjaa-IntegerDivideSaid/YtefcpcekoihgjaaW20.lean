/-
  awake: the examples of the document hold.
-/
import Derived.Test.YtefcpcekoihgjaaW19
import Derived.Test.YtefcpcekoihgjaaW5
namespace Go.Proofs.Ytefcpcekoihgjaa
open Go.RowKit
set_option linter.unusedVariables false
set_option linter.unusedSimpArgs false

theorem rd_lit (W : World) (cs : Array Value) (xs : List Nat) (n : Nat) (hc : cs = arr xs) (hs : Sm xs) (hn : xs.length = n) : Rd (W.alloc (.cells cs 57)) (some ⟨W.heap.size, 0, none⟩) n n xs := by
  subst hc
  exact blk_rd0 (Blk.new W _) hs hn (Nat.le_refl _)
theorem rd_alloc {W : World} {A : Option Addr} {n c : Nat} {xs : List Nat} (h : Rd W A n c xs) (o : Obj) : Rd (W.alloc o) A n c xs := h.below ((Below.refl _ _).alloc (Nat.le_refl _) o)
theorem rd_lit2 (W : World) (o : Obj) (cs : Array Value) (xs : List Nat) (n : Nat) (hc : cs = arr xs) (hs : Sm xs) (hn : xs.length = n) : Rd ((W.alloc o).alloc (.cells cs 57)) (some ⟨W.heap.size + 1, 0, none⟩) n n xs := by
  have := rd_lit (W.alloc o) cs xs n hc hs hn
  rwa [World.size_alloc] at this
theorem sm_01 : Sm [0, 1] := (Sm.nil.cons (by omega)).cons (by omega)
theorem sm_1 : Sm [1] := Sm.nil.cons (by omega)
theorem sm_001 : Sm [0, 0, 1] := sm_01.cons (by omega)
theorem sm_11 : Sm [1, 1] := sm_1.cons (by omega)
theorem sm_00 : Sm [0, 0] := (Sm.nil.cons (by omega)).cons (by omega)
theorem sm_max : Sm [4294967295] := Sm.nil.cons (by omega)
theorem sm_6 : Sm [6] := Sm.nil.cons (by omega)
def Gv (W : World) (xs : List Nat) (n : Nat) (e : Ending) (w' : World) : Prop := ∃ A c, e = .returned (.slice A n c) ∧ Rd w' A n c xs ∧ Below W.heap.size W w'
abbrev c0 : Value := .int .u32 0
abbrev c1 : Value := .int .u32 1
abbrev cm : Value := .int .u32 4294967295
theorem sub_const (W : World) : Calls Try.prog 48 #[.slice (some ⟨W.heap.size, 0, none⟩) 2 2, .slice (some ⟨W.heap.size + 1, 0, none⟩) 1 1] ((W.alloc (.cells #[c0, c1] 57)).alloc (.cells #[c1] 57)) fun e w' =>
    ∃ A c, e = .returned (.tuple #[.slice A 1 c, .int .i64 0]) ∧ Rd w' A 1 c [4294967295] ∧ Below W.heap.size W w' := by
  refine (sub_ge _ _ 2 1 2 1 [0, 1] [1] _ (rd_alloc (rd_lit W _ [0, 1] 2 rfl sm_01 rfl) _) (rd_lit2 W _ _ [1] 1 rfl sm_1 rfl) (by omega) (by omega) (by decide)).mono ?_
  have e1 : dg (val [0, 1] - val [1]) = [4294967295] := by
    rw [show val [0, 1] - val [1] = 4294967295 from by decide]
    exact dg_small (by omega) (by omega)
  rw [e1]
  rintro e w' ⟨A, c, rfl, hr, hb⟩
  exact ⟨A, c, rfl, hr, below_then (((Below.refl _ _).alloc (Nat.le_refl _) _).alloc (by simp) _) (Nat.le_refl _) hb⟩
theorem dm_const (W : World) : Calls Try.prog 54 #[.slice (some ⟨W.heap.size, 0, none⟩) 3 3, .slice (some ⟨W.heap.size + 1, 0, none⟩) 2 2] ((W.alloc (.cells #[c0, c0, c1] 57)).alloc (.cells #[c1, c1] 57)) fun e w' =>
    ∃ A c B d, e = .returned (.tuple #[.slice A 1 c, .slice B 1 d, .int .i64 0]) ∧ Rd w' A 1 c [4294967295] ∧ Rd w' B 1 d [1] ∧ Below W.heap.size W w' := by
  refine (divmod_calls _ _ 3 2 3 2 [0, 0, 1] [1, 1] _ (rd_alloc (rd_lit W _ [0, 0, 1] 3 rfl sm_001 rfl) _) (rd_lit2 W _ _ [1, 1] 2 rfl sm_11 rfl) (by omega) (by omega) (by decide)).mono ?_
  have e1 : dg (val [0, 0, 1] / val [1, 1]) = [4294967295] := by
    rw [show val [0, 0, 1] / val [1, 1] = 4294967295 from by decide]
    exact dg_small (by omega) (by omega)
  have e2 : dg (val [0, 0, 1] % val [1, 1]) = [1] := by
    rw [show val [0, 0, 1] % val [1, 1] = 1 from by decide]
    exact dg_small (by omega) (by omega)
  rw [e1, e2]
  rintro e w' ⟨A, c, B, d, rfl, hr, hr2, hb⟩
  exact ⟨A, c, B, d, rfl, hr, hr2, below_then (((Below.refl _ _).alloc (Nat.le_refl _) _).alloc (by simp) _) (Nat.le_refl _) hb⟩
theorem of_const (W : World) (i : Int) (k : Nat) (hi : i = k) (hk : k < 4294967296) (h0 : k ≠ 0) : Calls Try.prog 43 #[.int .u64 i] W (Gv W [k] 1) := by
  have := of_int i k W hi (by omega)
  rw [dg_small hk h0] at this
  exact this
theorem same_const (A : Option Addr) (c x : Nat) (i : Int) (W : World) (hi : i = (x : Int)) (h : Rd W A 1 c [x]) : Calls Try.prog 37 #[.slice A 1 c, .slice (some ⟨W.heap.size, 0, none⟩) 1 1] (W.alloc (.cells #[.int .u32 i] 57)) fun e w' => e = .returned (.bool true) ∧ Below W.heap.size W w' := by
  subst hi
  refine (same_calls A _ 1 c 1 [x] _ (rd_alloc h _) (rd_lit W _ [x] 1 rfl h.sm rfl) (by omega)).mono ?_
  rintro e w' ⟨rfl, q, rfl⟩
  exact ⟨rfl, below_drewN ((Below.refl _ _).alloc (Nat.le_refl _) _) q⟩
theorem bits_const (W : World) : Calls Try.prog 41 #[.slice (some ⟨W.heap.size, 0, none⟩) 2 2] (W.alloc (.cells #[c0, c1] 57)) fun e w' => e = .returned (.int .i64 33) ∧ Below W.heap.size W w' := by
  refine (bits_calls _ 2 2 [0, 1] _ 33 (by decide) (rd_lit W _ [0, 1] 2 rfl sm_01 rfl) (by omega)).mono ?_
  rintro e w' ⟨rfl, rfl⟩
  exact ⟨rfl, (Below.refl _ _).alloc (Nat.le_refl _) _⟩
theorem make_const (W : World) : Calls Try.prog 36 #[.slice (some ⟨W.heap.size, 0, none⟩) 2 2] (W.alloc (.cells #[c0, c0] 57)) fun e w' => ∃ A c, e = .returned (.slice A 0 c) ∧ Below W.heap.size W w' := by
  refine (make_calls _ 2 2 [0, 0] _ (rd_lit W _ [0, 0] 2 rfl sm_00 rfl) (by omega)).mono ?_
  rintro e w' ⟨A, c, rfl, hr, hb⟩
  exact ⟨A, c, rfl, below_then ((Below.refl _ _).alloc (Nat.le_refl _) _) (Nat.le_refl _) hb⟩

end Go.Proofs.Ytefcpcekoihgjaa
