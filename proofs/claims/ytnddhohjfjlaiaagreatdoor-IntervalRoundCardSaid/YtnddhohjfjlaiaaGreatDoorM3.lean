/-
  Several texts in one, in build order: W19 W20 Law W21 AddLaw SubLaw CmpLaw W22 W23 W24 MulLaw DivLaw N6 W25 W26 W27 W28 W29 N7 Fr W30 W31.
-/
import Derived.Test.YtnddhohjfjlaiaaGreatDoorM2
import Derived.Deep.RegionHeld3

/-
  smallGcd, and Gcd of numbers below 2 to the 64.
-/
namespace Go.Proofs.YtnddhohjfjlaiaaGreatDoor
open Go.RowKit
set_option linter.unusedVariables false
set_option linter.unusedSimpArgs false

def SgRel (G : Nat) (x y : Value) : Prop := ∃ a b : Nat, x = .int .u64 a ∧ y = .int .u64 b ∧ a ≤ 18446744073709551615 ∧ b ≤ 18446744073709551615 ∧ Nat.gcd a b = G
theorem sgcd_calls (x y : Nat) (w : World) (hx : x ≤ 18446744073709551615) (hy : y ≤ 18446744073709551615) :
    Calls Tryz.prog 91 #[.int .u64 (x : Int), .int .u64 (y : Int)] w fun e w' => e = .returned (.int .u64 (Nat.gcd x y : Nat)) ∧ ∃ m, w' = w.drewN m := by
  obtain ⟨G, hG⟩ : ∃ G, G = Nat.gcd x y := ⟨_, rfl⟩
  rw [← hG]
  have HG := hide hG
  clear hG
  go_enter Tryz.func91, Tryz.ntmps91
  go_wp2
  go_loopw [0, 1] (fun a b wr => SgRel G a b ∧ ∃ m, wr = w.drewN m) (fun _ b _ => (intOf b).toNat)
  case atStart => exact ⟨⟨x, y, rfl, rfl, hx, hy, HG.out.symm⟩, 0, rfl⟩
  case round =>
    obtain ⟨⟨a, b, rfl, rfl, ha, hb, hg⟩, m, rfl⟩ := hrel
    have H := hide hg
    clear hg
    by_cases h0 : b = 0
    · subst h0
      go_wp2
      go_ret
      refine ⟨?_, _, rfl⟩
      show Ending.returned (.int .u64 (a : Int)) = _
      rw [← H.out, Nat.gcd_zero_right]
    · have hb0 : ((b : Int) == 0) = false := by simp; omega
      have hb1 : ((b : Int) != 0) = true := by simp; omega
      have hpos : 0 < b := by omega
      have hm : (a : Int) % (b : Int) = ((a % b : Nat) : Int) := by simp
      have hlt : a % b < b := Nat.mod_lt _ hpos
      have hgc : Nat.gcd b (a % b) = G := by
        rw [← H.out, Nat.gcd_comm b (a % b), ← Nat.gcd_rec, Nat.gcd_comm]
      have HG2 := hide (And.intro hm hgc)
      obtain ⟨c, hc⟩ : ∃ c, c = a % b := ⟨_, rfl⟩
      rw [← hc] at hlt
      have HC := hide hc
      clear hm hgc hc
      go_wp2
      go_quiet (fail)
      go_wp2
      go_roundw
      case rel => exact ⟨⟨b, a % b, rfl, by first | rfl | exact congrArg _ HG2.out.1, hb, by have := HC.out; omega, HG2.out.2⟩, by first | exact ⟨_, rfl⟩ | exact drewN2 _ _ _⟩
      case measure => simp [intOf]; have := HG2.out.1; have := HC.out; omega

/-- The greatest common divisor of numbers of at most two limbs. -/
theorem gcd_step {a b : Nat} : Nat.gcd b (a % b) = Nat.gcd a b := by rw [Nat.gcd_comm b (a % b), ← Nat.gcd_rec, Nat.gcd_comm]
theorem make_at (A : Option Addr) (n c : Nat) (xs : List Nat) (w : World) (X L : Nat) (hX : val xs = X) (hL : (dg X).length = L) (h : Rd w A n c xs) (hn : n ≤ 1048576) :
    Calls Tryz.prog 34 #[.slice A n c] w fun e w' => ∃ A1 c1, e = .returned (.slice A1 L c1) ∧ Rd w' A1 L c1 (dg X) ∧ Below w.heap.size w w' := by
  subst hX hL
  exact make_calls A n c xs w h hn
section
variable (A B : Option Addr) (n m c d : Nat) (xs ys : List Nat) (w : World) (X Y : Nat) (h : Rd w A n c xs) (h2 : Rd w B m d ys) (hn : n ≤ 65536) (hm : m ≤ 65536) (hX : val xs = X) (hY : val ys = Y)
include h h2 hn hm hX hY
/-- The end of Gcd, where the lesser number has at most two limbs and is not 0. -/
theorem gcd_ge (hle : Y ≤ X) (h0 : 0 < Y) (h2l : (dg Y).length ≤ 2) : Calls Tryz.prog 69 #[.slice A n c, .slice B m d] w (Gives w (dg (Nat.gcd X Y))) := by
  obtain ⟨L, hL⟩ : ∃ L, (dg X).length = L := ⟨_, rfl⟩
  obtain ⟨M, hM⟩ : ∃ M, (dg Y).length = M := ⟨_, rfl⟩
  have hLn : L ≤ 65536 := by rw [← hL, ← hX, len_dg_val h.sm]; have := tlen_le xs; have := h.len; omega
  have hMn : M ≤ 65536 := by rw [← hM, ← hY, len_dg_val h2.sm]; have := tlen_le ys; have := h2.len; omega
  obtain ⟨r, hr, hr0⟩ : ∃ r, sg (val (dg X)) (val (dg Y)) = r ∧ 0 ≤ r := ⟨_, rfl, by rw [val_dg, val_dg]; unfold sg; rw [if_neg (by omega)]; split <;> omega⟩
  rw [hM] at h2l
  have hM0 : ((M : Int) == 0) = false := by
    have : M ≠ 0 := fun e => by
      rw [e] at hM
      have := dg_nil_iff.1 (List.eq_nil_of_length_eq_zero hM)
      omega
    simp; omega
  have hd : decide ((2 : Int) < (M : Int)) = false := by simp; omega
  have hYs := u64_two (sm_dg Y) (by omega)
  rw [val_dg] at hYs
  have hR : X % Y < Y := Nat.mod_lt _ h0
  have hRl : (dg (X % Y)).length ≤ 2 := Nat.le_trans (len_dg_le (Nat.lt_trans hR (lt_of_len (Nat.le_of_eq hM)))) h2l
  have HLY := hide (show lim (dg Y) 0 + 4294967296 * lim (dg Y) 1 = Y by rw [val_two (by omega), val_dg])
  have HLR := hide (show lim (dg (X % Y)) 0 + 4294967296 * lim (dg (X % Y)) 1 = X % Y by rw [val_two (by omega), val_dg])
  have hG : Nat.gcd Y (X % Y) = Nat.gcd X Y := gcd_step
  have hGb : Nat.gcd X Y ≤ 18446744073709551615 := Nat.le_trans (Nat.gcd_le_right X h0) hYs
  have hRb : X % Y ≤ 18446744073709551615 := by omega
  have HM1 := hide (fun (W : World) (hb : Rd W A n c xs) => make_at A n c xs W X L hX hL hb (by omega))
  have HM2 := hide (fun (W : World) (hb : Rd W B m d ys) => make_at B m d ys W Y M hY hM hb (by omega))
  have HDM := hide (fun (A1 A2 : Option Addr) (c1 c2 : Nat) (W : World) (k1 : Rd W A1 L c1 (dg X)) (k2 : Rd W A2 M c2 (dg Y)) => (by
    have := divmod_calls A1 A2 L M c1 c2 _ _ W k1 k2 hLn hMn (by rw [val_dg]; exact h0)
    rwa [val_dg, val_dg] at this : Calls Tryz.prog 79 #[.slice A1 L c1, .slice A2 M c2] W (Gives3 W (dg (X / Y)) (dg (X % Y)) 0)))
  have HS := hide hr
  have HG := hide (And.intro hG hGb)
  clear hr hL hM h0 hle hX hY h2l hR hRl hG hGb
  go_enter Tryz.func69, Tryz.ntmps69
  go_wp2_with (first
      | (go_at_call 34; (with_reducible refine (unhide HM1 _ h).mono ?_); rintro e w1 ⟨A1, c1, rfl, hr1, hb1⟩; have h2w := h2.below hb1)
      | (go_at_call 34; (with_reducible refine (unhide HM2 _ h2w).mono ?_); rintro e w2 ⟨A2, c2, rfl, hr2, hb2⟩; have hr1' := hr1.below hb2)
      | (go_at_call 65; refine (cmp_calls _ _ _ _ _ _ _ _ _ r hr1' hr2 (by omega) (by omega) HS.out).mono ?_; rintro e w' ⟨rfl, q, rfl⟩; have hr1'' := hr1'.below (below_drewN (Below.refl _ _) q); have hr2'' := hr2.below (below_drewN (Below.refl _ _) q)))
  refine wp_loop_rounds 1 ?_
  rw [rounds_succ]
  go_wp2_with (first
      | (go_at_call 79; refine (unhide HDM _ _ _ _ _ hr1'' hr2'').mono ?_; rintro e w3 ⟨A3, c3, A4, c4, rfl, hr3, hr4, hb4⟩; have hr5 := hr2''.below hb4)
      | (go_at_call 92; (with_reducible refine (low_at A2 _ _ _ _ Y HLY.out hr5).mono ?_); rintro e w' ⟨rfl, rfl⟩)
      | (go_at_call 92; (with_reducible refine (low_at A4 _ _ _ _ (X % Y) HLR.out hr4).mono ?_); rintro e w' ⟨rfl, rfl⟩)
      | (go_at_call 91; refine (sgcd_calls Y (X % Y) _ hYs hRb).mono ?_; rintro e w' ⟨rfl, q2, rfl⟩)
      | (go_at_call 33; refine (of_int _ (Nat.gcd X Y) _ (by rw [HG.out.1]) HG.out.2).mono ?_; rintro e w6 ⟨A6, c6, rfl, hr6, hb6⟩))
  go_ret
  exact ⟨A6, c6, rfl, hr6, below_then (below_drewN (below_then (below_drewN (below_then hb1 (Nat.le_refl _) hb2) q) (Nat.le_refl _) hb4) q2) (Nat.le_refl _) hb6⟩
/-- The end of Gcd, where the first number is the lesser one, has at most two limbs and is not 0. -/
theorem gcd_lt (hle : X < Y) (h0 : 0 < X) (h2l : (dg X).length ≤ 2) : Calls Tryz.prog 69 #[.slice A n c, .slice B m d] w (Gives w (dg (Nat.gcd X Y))) := by
  obtain ⟨L, hL⟩ : ∃ L, (dg X).length = L := ⟨_, rfl⟩
  obtain ⟨M, hM⟩ : ∃ M, (dg Y).length = M := ⟨_, rfl⟩
  have hLn : L ≤ 65536 := by rw [← hL, ← hX, len_dg_val h.sm]; have := tlen_le xs; have := h.len; omega
  have hMn : M ≤ 65536 := by rw [← hM, ← hY, len_dg_val h2.sm]; have := tlen_le ys; have := h2.len; omega
  obtain ⟨r, hr, hr0⟩ : ∃ r, sg (val (dg X)) (val (dg Y)) = r ∧ r < 0 := ⟨_, rfl, by rw [val_dg, val_dg, sg_lt hle]; omega⟩
  rw [hL] at h2l
  have hM0 : ((L : Int) == 0) = false := by
    have : L ≠ 0 := fun e => by
      rw [e] at hL
      have := dg_nil_iff.1 (List.eq_nil_of_length_eq_zero hL)
      omega
    simp; omega
  have hd : decide ((2 : Int) < (L : Int)) = false := by simp; omega
  have hXs := u64_two (sm_dg X) (by omega)
  rw [val_dg] at hXs
  have hR : Y % X < X := Nat.mod_lt _ h0
  have hRl : (dg (Y % X)).length ≤ 2 := Nat.le_trans (len_dg_le (Nat.lt_trans hR (lt_of_len (Nat.le_of_eq hL)))) h2l
  have HLY := hide (show lim (dg X) 0 + 4294967296 * lim (dg X) 1 = X by rw [val_two (by omega), val_dg])
  have HLR := hide (show lim (dg (Y % X)) 0 + 4294967296 * lim (dg (Y % X)) 1 = Y % X by rw [val_two (by omega), val_dg])
  have hG : Nat.gcd X (Y % X) = Nat.gcd X Y := gcd_step.trans (Nat.gcd_comm _ _)
  have hGb : Nat.gcd X Y ≤ 18446744073709551615 := Nat.le_trans (Nat.gcd_le_left Y h0) hXs
  have hRb : Y % X ≤ 18446744073709551615 := by omega
  have HM1 := hide (fun (W : World) (hb : Rd W A n c xs) => make_at A n c xs W X L hX hL hb (by omega))
  have HM2 := hide (fun (W : World) (hb : Rd W B m d ys) => make_at B m d ys W Y M hY hM hb (by omega))
  have HDM := hide (fun (A1 A2 : Option Addr) (c1 c2 : Nat) (W : World) (k1 : Rd W A1 L c1 (dg X)) (k2 : Rd W A2 M c2 (dg Y)) => (by
    have := divmod_calls A2 A1 M L c2 c1 _ _ W k2 k1 hMn hLn (by rw [val_dg]; exact h0)
    rwa [val_dg, val_dg] at this : Calls Tryz.prog 79 #[.slice A2 M c2, .slice A1 L c1] W (Gives3 W (dg (Y / X)) (dg (Y % X)) 0)))
  have HS := hide hr
  have HG := hide (And.intro hG hGb)
  clear hr hL hM h0 hle hX hY h2l hR hRl hG hGb
  go_enter Tryz.func69, Tryz.ntmps69
  go_wp2_with (first
      | (go_at_call 34; (with_reducible refine (unhide HM1 _ h).mono ?_); rintro e w1 ⟨A1, c1, rfl, hr1, hb1⟩; have h2w := h2.below hb1)
      | (go_at_call 34; (with_reducible refine (unhide HM2 _ h2w).mono ?_); rintro e w2 ⟨A2, c2, rfl, hr2, hb2⟩; have hr1' := hr1.below hb2)
      | (go_at_call 65; refine (cmp_calls _ _ _ _ _ _ _ _ _ r hr1' hr2 (by omega) (by omega) HS.out).mono ?_; rintro e w' ⟨rfl, q, rfl⟩; have hr1'' := hr1'.below (below_drewN (Below.refl _ _) q); have hr2'' := hr2.below (below_drewN (Below.refl _ _) q)))
  refine wp_loop_rounds 1 ?_
  rw [rounds_succ]
  go_wp2_with (first
      | (go_at_call 79; refine (unhide HDM _ _ _ _ _ hr1'' hr2'').mono ?_; rintro e w3 ⟨A3, c3, A4, c4, rfl, hr3, hr4, hb4⟩; have hr5 := hr1''.below hb4)
      | (go_at_call 92; (with_reducible refine (low_at A1 _ _ _ _ X HLY.out hr5).mono ?_); rintro e w' ⟨rfl, rfl⟩)
      | (go_at_call 92; (with_reducible refine (low_at A4 _ _ _ _ (Y % X) HLR.out hr4).mono ?_); rintro e w' ⟨rfl, rfl⟩)
      | (go_at_call 91; refine (sgcd_calls X (Y % X) _ hXs hRb).mono ?_; rintro e w' ⟨rfl, q2, rfl⟩)
      | (go_at_call 33; refine (of_int _ (Nat.gcd X Y) _ (by rw [HG.out.1]) HG.out.2).mono ?_; rintro e w6 ⟨A6, c6, rfl, hr6, hb6⟩))
  go_ret
  exact ⟨A6, c6, rfl, hr6, below_then (below_drewN (below_then (below_drewN (below_then hb1 (Nat.le_refl _) hb2) q) (Nat.le_refl _) hb4) q2) (Nat.le_refl _) hb6⟩
end
end Go.Proofs.YtnddhohjfjlaiaaGreatDoor

/-
  awake: the examples of the document hold.
-/
namespace Go.Proofs.YtnddhohjfjlaiaaGreatDoor
open Go.RowKit
set_option linter.unusedVariables false
set_option linter.unusedSimpArgs false

theorem rd_lit (W : World) (cs : Array Value) (xs : List Nat) (n : Nat) (hc : cs = arr xs) (hs : Sm xs) (hn : xs.length = n) : Rd (W.alloc (.cells cs 57)) (some ⟨W.heap.size, 0, none⟩) n n xs := by
  subst hc
  exact blk_rd0 (Blk.new W _) hs hn (Nat.le_refl _)
theorem rd_alloc {W : World} {A : Option Addr} {n c : Nat} {xs : List Nat} (h : Rd W A n c xs) (o : Obj) : Rd (W.alloc o) A n c xs := h.below ((Below.refl _ _).alloc (Nat.le_refl _) o)
theorem rd_lit2 (W : World) (o : Obj) (cs : Array Value) (xs : List Nat) (n : Nat) (hc : cs = arr xs) (hs : Sm xs) (hn : xs.length = n) : Rd ((W.alloc o).alloc (.cells cs 57)) (some ⟨W.heap.size + 1, 0, none⟩) n n xs := by
  have := rd_lit (W.alloc o) cs xs n hc hs hn
  rwa [World.size_alloc] at this
theorem sm_01 : Sm [0, 1] := (Sm.nil.cons (by omega)).cons (by omega)
theorem sm_1 : Sm [1] := Sm.nil.cons (by omega)
theorem sm_001 : Sm [0, 0, 1] := sm_01.cons (by omega)
theorem sm_11 : Sm [1, 1] := sm_1.cons (by omega)
theorem sm_00 : Sm [0, 0] := (Sm.nil.cons (by omega)).cons (by omega)
theorem sm_max : Sm [4294967295] := Sm.nil.cons (by omega)
theorem sm_6 : Sm [6] := Sm.nil.cons (by omega)
def Gv (W : World) (xs : List Nat) (n : Nat) (e : Ending) (w' : World) : Prop := ∃ A c, e = .returned (.slice A n c) ∧ Rd w' A n c xs ∧ Below W.heap.size W w'
abbrev c0 : Value := .int .u32 0
abbrev c1 : Value := .int .u32 1
abbrev cm : Value := .int .u32 4294967295
theorem dm_const (W : World) : Calls Tryz.prog 79 #[.slice (some ⟨W.heap.size, 0, none⟩) 3 3, .slice (some ⟨W.heap.size + 1, 0, none⟩) 2 2] ((W.alloc (.cells #[c0, c0, c1] 57)).alloc (.cells #[c1, c1] 57)) fun e w' =>
    ∃ A c B d, e = .returned (.tuple #[.slice A 1 c, .slice B 1 d, .int .i64 0]) ∧ Rd w' A 1 c [4294967295] ∧ Rd w' B 1 d [1] ∧ Below W.heap.size W w' := by
  refine (divmod_calls _ _ 3 2 3 2 [0, 0, 1] [1, 1] _ (rd_alloc (rd_lit W _ [0, 0, 1] 3 rfl sm_001 rfl) _) (rd_lit2 W _ _ [1, 1] 2 rfl sm_11 rfl) (by omega) (by omega) (by decide)).mono ?_
  have e1 : dg (val [0, 0, 1] / val [1, 1]) = [4294967295] := by
    rw [show val [0, 0, 1] / val [1, 1] = 4294967295 from by decide]
    exact dg_small (by omega) (by omega)
  have e2 : dg (val [0, 0, 1] % val [1, 1]) = [1] := by
    rw [show val [0, 0, 1] % val [1, 1] = 1 from by decide]
    exact dg_small (by omega) (by omega)
  rw [e1, e2]
  rintro e w' ⟨A, c, B, d, rfl, hr, hr2, hb⟩
  exact ⟨A, c, B, d, rfl, hr, hr2, below_then (((Below.refl _ _).alloc (Nat.le_refl _) _).alloc (by simp) _) (Nat.le_refl _) hb⟩
theorem of_const (W : World) (i : Int) (k : Nat) (hi : i = k) (hk : k < 4294967296) (h0 : k ≠ 0) : Calls Tryz.prog 33 #[.int .u64 i] W (Gv W [k] 1) := by
  have := of_int i k W hi (by omega)
  rw [dg_small hk h0] at this
  exact this
theorem gcd_const (A B : Option Addr) (c d : Nat) (W : World) (h : Rd W A 1 c [12]) (h2 : Rd W B 1 d [18]) : Calls Tryz.prog 69 #[.slice A 1 c, .slice B 1 d] W (Gv W [6] 1) := by
  have e12 : dg 12 = [12] := dg_small (by omega) (by omega)
  have e18 : dg 18 = [18] := dg_small (by omega) (by omega)
  have := gcd_lt A B 1 1 c d [12] [18] W 12 18 h h2 (by omega) (by omega) rfl rfl (by omega) (by omega) (by rw [e12]; decide)
  rw [show Nat.gcd 12 18 = 6 from by decide, dg_small (by omega) (by omega)] at this
  exact this
theorem same_const (A : Option Addr) (c x : Nat) (i : Int) (W : World) (hi : i = (x : Int)) (h : Rd W A 1 c [x]) : Calls Tryz.prog 38 #[.slice A 1 c, .slice (some ⟨W.heap.size, 0, none⟩) 1 1] (W.alloc (.cells #[.int .u32 i] 57)) fun e w' => e = .returned (.bool true) ∧ Below W.heap.size W w' := by
  subst hi
  refine (same_calls A _ 1 c 1 [x] _ (rd_alloc h _) (rd_lit W _ [x] 1 rfl h.sm rfl) (by omega)).mono ?_
  rintro e w' ⟨rfl, q, rfl⟩
  exact ⟨rfl, below_drewN ((Below.refl _ _).alloc (Nat.le_refl _) _) q⟩
theorem bits_const (W : World) : Calls Tryz.prog 49 #[.slice (some ⟨W.heap.size, 0, none⟩) 2 2] (W.alloc (.cells #[c0, c1] 57)) fun e w' => e = .returned (.int .i64 33) ∧ Below W.heap.size W w' := by
  refine (bits_calls _ 2 2 [0, 1] _ 33 (by decide) (rd_lit W _ [0, 1] 2 rfl sm_01 rfl) (by omega)).mono ?_
  rintro e w' ⟨rfl, rfl⟩
  exact ⟨rfl, (Below.refl _ _).alloc (Nat.le_refl _) _⟩
theorem make_const (W : World) : Calls Tryz.prog 34 #[.slice (some ⟨W.heap.size, 0, none⟩) 2 2] (W.alloc (.cells #[c0, c0] 57)) fun e w' => ∃ A c, e = .returned (.slice A 0 c) ∧ Below W.heap.size W w' := by
  refine (make_calls _ 2 2 [0, 0] _ (rd_lit W _ [0, 0] 2 rfl sm_00 rfl) (by omega)).mono ?_
  rintro e w' ⟨A, c, rfl, hr, hb⟩
  exact ⟨A, c, rfl, below_then ((Below.refl _ _).alloc (Nat.le_refl _) _) (Nat.le_refl _) hb⟩

end Go.Proofs.YtnddhohjfjlaiaaGreatDoor

/-
  What the laws' walks share: a slice that came in reads as limbs; few.
-/
namespace Go.Proofs.YtnddhohjfjlaiaaGreatDoor
open Go.RowKit
set_option linter.unusedVariables false
set_option linter.unusedSimpArgs false

/-- A slice of limbs that came in. -/
theorem rd_of {w : World} {a : Option Addr} {len cap : Nat} {zs : List Int} (h : (a = none ∧ len = 0 ∧ cap = 0 ∧ zs = []) ∨
    ∃ x, a = some x ∧ len ≤ cap ∧ cap ≤ maxLen ∧ zs.length = cap ∧ (∀ i, i < zs.length → w.cell? (x.add i) = some (.int .u32 (zs.getD i 0))) ∧ ∀ n ∈ zs, (Lit.int .u32 n).wf = true) : ∃ xs, Rd w a len cap xs := by
  rcases h with ⟨rfl, rfl, rfl, rfl⟩ | ⟨x, rfl, hl, hm, hz, hc, hw⟩
  · exact ⟨[], Rd.empty _ _ _⟩
  · have hr : ∀ n ∈ zs, 0 ≤ n ∧ n ≤ 4294967295 := fun n hn => by
      have := hw n hn
      simp [Lit.wf, IntKind.min, IntKind.max, IntKind.bits, IntKind.signed] at this
      omega
    refine ⟨(zs.take len).map Int.toNat, by rw [List.length_map, List.length_take]; omega, ?_, hl, fun hpos => ?_⟩
    · intro y hy
      obtain ⟨n, hn, rfl⟩ := List.mem_map.1 hy
      have := hr n (List.mem_of_mem_take hn)
      omega
    · obtain ⟨b, off, spot⟩ := x
      have h0 := hc 0 (by omega)
      have hs : spot = none := by simpa [Addr.add] using World.cell?_spot h0
      subst hs
      refine ⟨b, off, rfl, ?_, fun k hk => ?_⟩
      · rcases Nat.lt_or_ge b w.heap.size with hb | hb
        · exact hb
        · exfalso
          have e : ((⟨b, off, none⟩ : Addr).add 0) = ⟨b, off, none⟩ := by simp [Addr.add]
          rw [e] at h0
          simp [World.cell?, Array.getElem?_eq_none hb] at h0
      · have h1 := hc k (by omega)
        rw [show ((⟨b, off, none⟩ : Addr).add k) = ⟨b, off + k, none⟩ from by unfold Addr.add; split <;> simp_all] at h1
        rw [h1]
        have hk2 : k < zs.length := by omega
        have h2 := hr (zs.getD k 0) (by rw [List.getD_eq_getElem?_getD, List.getElem?_eq_getElem hk2]; exact List.getElem_mem hk2)
        have e : lim ((zs.take len).map Int.toNat) k = (zs.getD k 0).toNat := by
          rw [lim_get (by rw [List.length_map, List.length_take]; omega)]
          simp [hk2]
        rw [e]
        congr 2
        omega
theorem u64_wf {a : Int} (h : (Lit.int .u64 a).wf = true) : ∃ x : Nat, a = (x : Int) ∧ x ≤ 18446744073709551615 := by
  simp [Lit.wf, IntKind.min, IntKind.max, IntKind.bits, IntKind.signed] at h
  exact ⟨a.toNat, by omega, by omega⟩
theorem same_b (A B : Option Addr) (n c d : Nat) (xs : List Nat) (w : World) (h : Rd w A n c xs) (h2 : Rd w B n d xs) (hn : n ≤ 1048576) :
    Calls Tryz.prog 38 #[.slice A n c, .slice B n d] w fun e w' => e = .returned (.bool true) ∧ Below w.heap.size w w' :=
  (same_calls A B n c d xs w h h2 hn).mono fun _ _ ⟨he, q, hw⟩ => ⟨he, by rw [hw]; exact below_drewN (Below.refl _ _) q⟩
theorem cmp_b (A B : Option Addr) (n m c d : Nat) (xs ys : List Nat) (w : World) (r : Int) (h : Rd w A n c xs) (h2 : Rd w B m d ys) (hn : n ≤ 1048576) (hm : m ≤ 1048576) (hr : sg (val xs) (val ys) = r) :
    Calls Tryz.prog 65 #[.slice A n c, .slice B m d] w fun e w' => e = .returned (.int .i64 r) ∧ Below w.heap.size w w' :=
  (cmp_calls A B n m c d xs ys w r h h2 hn hm hr).mono fun _ _ ⟨he, q, hw⟩ => ⟨he, by rw [hw]; exact below_drewN (Below.refl _ _) q⟩
end Go.Proofs.YtnddhohjfjlaiaaGreatDoor

/-
  The specification's Add and Sub.
-/
namespace Go.Proofs.YtnddhohjfjlaiaaGreatDoor
open Go.RowKit
set_option linter.unusedVariables false
set_option linter.unusedSimpArgs false

theorem val_snoc (L : List Nat) (v : Nat) : val (L ++ [v]) = val L + pw L.length * v := by
  rw [val_append]
  simp [val]
theorem Sm.snoc {L : List Nat} (h : Sm L) {v : Nat} (hv : v < 4294967296) : Sm (L ++ [v]) := fun y hy => by
  rcases List.mem_append.1 hy with hy | hy
  · exact h y hy
  · rw [List.mem_singleton.1 hy]; exact hv
theorem Own.below {w w' : World} {base : Nat} {A : Option Addr} {n c : Nat} {xs : List Nat} (h : Own w base A n c xs) (hb : Below w.heap.size w w') : Own w' base A n c xs :=
  World.ownsRow.kept (row := none) h ⟨hb.os, hb.tape, hb.output, hb.size, fun k hk _ => hb.block k hk⟩ (by
    cases hv : (Value.slice A n c).ownBlock with
    | none => exact .inl rfl
    | some g => exact .inr (by simp))
def AlInv (L xs ys : List Nat) (k cc : Nat) : Prop := L.length = k ∧ Sm L ∧ val L + pw k * cc = pv xs k + pv ys k
theorem al_step {L xs ys : List Nat} {k cc t : Nat} (ht : t = cc + (lim xs k + lim ys k)) (h : AlInv L xs ys k cc) : AlInv (L ++ [t % 4294967296]) xs ys (k + 1) (t / 4294967296) := by
  obtain ⟨h1, h2, h3⟩ := h
  refine ⟨by simp [h1], h2.snoc (by omega), ?_⟩
  rw [val_snoc, h1, pv_succ, pv_succ, pw]
  have e : pw k * t = pw k * (t % 4294967296) + pw k * (4294967296 * (t / 4294967296)) := by rw [← Nat.mul_add, Nat.mod_add_div]
  have e2 : pw k * t = pw k * cc + (pw k * lim xs k + pw k * lim ys k) := by rw [ht, Nat.mul_add, Nat.mul_add]
  rw [← Nat.mul_assoc (pw k) 4294967296, Nat.mul_comm (pw k) 4294967296] at e
  omega
theorem al_end {L xs ys : List Nat} {k cc : Nat} (hx : xs.length ≤ k) (hy : ys.length ≤ k) (h : AlInv L xs ys k cc) : val (L ++ [cc]) = val xs + val ys := by
  obtain ⟨h1, h2, h3⟩ := h
  rw [val_snoc, h1, h3, pv_len hx, pv_len hy]
theorem radd_calls (A B : Option Addr) (n m c d : Nat) (xs ys : List Nat) (w : World) (h : Rd w A n c xs) (h2 : Rd w B m d ys) (hn : n ≤ 1048576) (hm : m ≤ 1048576) :
    Calls Tryz.prog 85 #[.slice A n c, .slice B m d] w (Gives w (dg (val xs + val ys))) := by
  have HL := hide (And.intro h.len h2.len)
  go_enter Tryz.func85, Tryz.ntmps85
  go_wp2
  go_loopw [5, 6, 7] (fun o cy i wr => ∃ (k cc : Nat) (A1 : Option Addr) (c1 : Nat) (L : List Nat), k ≤ max n m ∧ i = .int .i64 k ∧ cy = .int .u64 cc ∧ cc ≤ 1 ∧ o = .slice A1 k c1 ∧ Own wr w.heap.size A1 k c1 L ∧ Below w.heap.size w wr ∧ Hid (AlInv L xs ys k cc)) (fun _ _ i _ => max n m - (intOf i).toNat)
  case atStart => exact ⟨0, 0, none, 0, [], by omega, rfl, rfl, by omega, rfl, Own.nil _ _, Below.refl _ _, ⟨rfl, Sm.nil, by simp [val, pv_zero]⟩⟩
  case round =>
    obtain ⟨k, cc, A1, c1, L, hk, rfl, rfl, hcc, rfl, hown, hb, HI⟩ := hrel
    have hx := h.sm.lim k
    have hy := h2.sm.lim k
    have hr1 := h.below hb
    have hr2 := h2.below hb
    have hbs := hb.size
    by_cases hkn : k < max n m
    · obtain ⟨t, ht⟩ : ∃ t, t = cc + (lim xs k + lim ys k) := ⟨_, rfl⟩
      have ht1 : (cc : Int) + ((lim xs k : Int) + (lim ys k : Int)) = (t : Int) := by omega
      have htb : t ≤ 8589934591 := by omega
      obtain ⟨v, hv⟩ : ∃ v, v = t % 4294967296 := ⟨_, rfl⟩
      have hv1 : (t : Int) % 4294967296 = (v : Int) := by omega
      have hv2 : v < 4294967296 := by omega
      have hst := al_step ht HI.out
      rw [← hv] at hst
      have HS := hide hst
      clear hst hv ht
      by_cases c1' : k < n
      · have e1 : decide ((k : Int) < (n : Int)) = true := by simp; omega
        go_wp2_with (first
          | (go_at_call 81; (with_reducible refine (rlimb_calls A _ _ _ _ k hr1).mono ?_); rintro e w' ⟨rfl, rfl⟩)
          | (go_at_call 81; (with_reducible refine (rlimb_calls B _ _ _ _ k hr2).mono ?_); rintro e w' ⟨rfl, rfl⟩)
          | (at_builtin; refine wpList_app rfl (.tmp 31) (.tmp 34) 22 22 rfl (.inl rfl) (.inl rfl) w.heap.size A1 k c1 L rfl (hown.alloc _) _ 1 1 [v] rfl (rd_one _ v hv2) (by omega) (by simp; omega) ?_; intro A' c' w' hown' hb'))
        go_roundw
        case rel => exact ⟨k + 1, t / 4294967296, A', c', L ++ [v], by omega, by go_num, by go_num, by omega, rfl, hown', (hb.alloc hbs _).trans hb', HS⟩
        case measure => simp [intOf]; omega
      · have e1 : decide ((k : Int) < (n : Int)) = false := by simp; omega
        have e2 : decide ((k : Int) < (m : Int)) = true := by simp; omega
        go_wp2_with (first
          | (go_at_call 81; (with_reducible refine (rlimb_calls A _ _ _ _ k hr1).mono ?_); rintro e w' ⟨rfl, rfl⟩)
          | (go_at_call 81; (with_reducible refine (rlimb_calls B _ _ _ _ k hr2).mono ?_); rintro e w' ⟨rfl, rfl⟩)
          | (at_builtin; refine wpList_app rfl (.tmp 31) (.tmp 34) 22 22 rfl (.inl rfl) (.inl rfl) w.heap.size A1 k c1 L rfl (hown.alloc _) _ 1 1 [v] rfl (rd_one _ v hv2) (by omega) (by simp; omega) ?_; intro A' c' w' hown' hb'))
        go_roundw
        case rel => exact ⟨k + 1, t / 4294967296, A', c', L ++ [v], by omega, by go_num, by go_num, by omega, rfl, hown', (hb.alloc hbs _).trans hb', HS⟩
        case measure => simp [intOf]; omega
    · have e1 : decide ((k : Int) < (n : Int)) = false := by simp; omega
      have e2 : decide ((k : Int) < (m : Int)) = false := by simp; omega
      have HE := hide (al_end (by have := HL.out.1; omega) (by have := HL.out.2; omega) HI.out)
      have hs1 : Sm (L ++ [cc]) := HI.out.2.1.snoc (by omega)
      have hk4 : k ≤ 1048576 := by omega
      have hb2 : ∀ o, Below w.heap.size w (wr.alloc o) := fun o => hb.alloc hbs o
      go_wp2_with (first
          | (at_builtin; refine wpList_app rfl (.tmp 38) (.tmp 41) 22 22 rfl (.inl rfl) (.inl rfl) w.heap.size A1 k c1 L rfl (hown.alloc _) _ 1 1 [cc] rfl (rd_one _ cc (by omega)) (by omega) (by simp; omega) ?_; intro A' c' w' hown' hb')
          | (go_at_call 82; refine (rmake_at _ _ _ _ _ _ HE.out (hown'.rd hs1) (by omega)).mono ?_; rintro e w2 ⟨A2, c2, rfl, hr, hb3⟩))
      go_ret
      exact ⟨A2, c2, rfl, hr, below_then ((hb2 _).trans hb') (Nat.le_refl _) hb3⟩
def SlInv (L xs ys : List Nat) (k bw : Nat) : Prop := L.length = k ∧ Sm L ∧ val L + pv ys k = pv xs k + pw k * bw
theorem sl_step {L xs ys : List Nat} {k bw v q : Nat} (hv : v < 4294967296) (hvq : v + lim ys k + bw = lim xs k + 4294967296 * q) (h : SlInv L xs ys k bw) : SlInv (L ++ [v]) xs ys (k + 1) q := by
  obtain ⟨h1, h2, h3⟩ := h
  refine ⟨by simp [h1], h2.snoc hv, ?_⟩
  rw [val_snoc, h1, pv_succ ys, pv_succ xs, pw]
  have e : pw k * (v + lim ys k + bw) = pw k * (lim xs k + 4294967296 * q) := by rw [hvq]
  rw [Nat.mul_add, Nat.mul_add, Nat.mul_add, ← Nat.mul_assoc, Nat.mul_comm (pw k) 4294967296] at e
  omega
theorem sl_end {L xs ys : List Nat} {bw n : Nat} (hx : xs.length = n) (hsx : Sm xs) (hle : val ys ≤ val xs) (h : SlInv L xs ys n bw) : val L = val xs - val ys := by
  obtain ⟨h1, h2, h3⟩ := h
  exact sub_end (S := L) hx hsx hle ⟨h1, h2, by rw [pv_len (by omega)]; exact h3⟩
theorem rsub_lt (A B : Option Addr) (n m c d : Nat) (xs ys : List Nat) (w : World) (h : Rd w A n c xs) (h2 : Rd w B m d ys) (hn : n ≤ 1048576) (hm : m ≤ 1048576) (hlt : val xs < val ys) :
    Calls Tryz.prog 102 #[.slice A n c, .slice B m d] w (GivesE w [] 2) := by
  have hs := sg_lt hlt
  go_enter Tryz.func102, Tryz.ntmps102
  go_wp2_with (go_at_call 56; refine (rcmp_calls A B n m c d xs ys _ (-1) h h2 hn hm hs).mono ?_; rintro e w' ⟨rfl, rfl⟩)
  go_ret2
  exact ⟨none, 0, rfl, Rd.empty _ _ _, Below.refl _ _⟩
theorem rsub_ge (A B : Option Addr) (n m c d : Nat) (xs ys : List Nat) (w : World) (h : Rd w A n c xs) (h2 : Rd w B m d ys) (hn : n ≤ 1048576) (hm : m ≤ 1048576) (hle : val ys ≤ val xs) :
    Calls Tryz.prog 102 #[.slice A n c, .slice B m d] w (GivesE w (dg (val xs - val ys)) 0) := by
  obtain ⟨r, hr, hr0⟩ : ∃ r, sg (val xs) (val ys) = r ∧ 0 ≤ r := ⟨_, rfl, by unfold sg; rw [if_neg (by omega)]; split <;> omega⟩
  have HR := hide hr
  have HL := hide (And.intro h.len hle)
  clear hr hle
  go_enter Tryz.func102, Tryz.ntmps102
  go_wp2_with (go_at_call 56; refine (rcmp_calls A B n m c d xs ys _ r h h2 hn hm HR.out).mono ?_; rintro e w' ⟨rfl, rfl⟩)
  go_loopw [6, 7, 8] (fun o cy i wr => ∃ (k bw : Nat) (A1 : Option Addr) (c1 : Nat) (L : List Nat), k ≤ n ∧ i = .int .i64 k ∧ cy = .int .u64 bw ∧ bw ≤ 1 ∧ o = .slice A1 k c1 ∧ Own wr w.heap.size A1 k c1 L ∧ Below w.heap.size w wr ∧ Hid (SlInv L xs ys k bw)) (fun _ _ i _ => n - (intOf i).toNat)
  case atStart => exact ⟨0, 0, none, 0, [], by omega, rfl, rfl, by omega, rfl, Own.nil _ _, Below.refl _ _, ⟨rfl, Sm.nil, by simp [val, pv_zero]⟩⟩
  case round =>
    obtain ⟨k, bw, A1, c1, L, hk, rfl, rfl, hbw, rfl, hown, hb, HI⟩ := hrel
    have hx := h.sm.lim k
    have hy := h2.sm.lim k
    have hr1 := h.below hb
    have hr2 := h2.below hb
    have hbs := hb.size
    by_cases hkn : k < n
    · by_cases hlt : lim xs k < lim ys k + bw
      · have e1 : (lim xs k : Int) < (lim ys k : Int) + (bw : Int) := by omega
        obtain ⟨v, hv⟩ : ∃ v, v = lim xs k + 4294967296 - (lim ys k + bw) := ⟨_, rfl⟩
        have hv1 : ((lim xs k : Int) + 4294967296 - ((lim ys k : Int) + (bw : Int))) = (v : Int) := by omega
        have hv2 : v < 4294967296 := by omega
        have HS := hide (sl_step (q := 1) hv2 (by omega) HI.out)
        clear hv
        go_wp2_with (first
          | (go_at_call 81; (with_reducible refine (rlimb_calls A _ _ _ _ k hr1).mono ?_); rintro e w' ⟨rfl, rfl⟩)
          | (go_at_call 81; (with_reducible refine (rlimb_calls B _ _ _ _ k hr2).mono ?_); rintro e w' ⟨rfl, rfl⟩)
          | (at_builtin; refine wpList_app rfl (.tmp 36) (.tmp 41) 22 22 rfl (.inl rfl) (.inl rfl) w.heap.size A1 k c1 L rfl (hown.alloc _) _ 1 1 [v] rfl (rd_one _ v hv2) (by omega) (by simp; omega) ?_; intro A' c' w' hown' hb'))
        go_roundw
        case rel => exact ⟨k + 1, 1, A', c', L ++ [v], by omega, by go_num, by go_num, by omega, rfl, hown', (hb.alloc hbs _).trans hb', HS⟩
        case measure => simp [intOf]; omega
      · have e1 : ¬ (lim xs k : Int) < (lim ys k : Int) + (bw : Int) := by omega
        obtain ⟨v, hv⟩ : ∃ v, v = lim xs k - (lim ys k + bw) := ⟨_, rfl⟩
        have hv1 : ((lim xs k : Int) - ((lim ys k : Int) + (bw : Int))) = (v : Int) := by omega
        have hv2 : v < 4294967296 := by omega
        have HS := hide (sl_step (q := 0) hv2 (by omega) HI.out)
        clear hv
        go_wp2_with (first
          | (go_at_call 81; (with_reducible refine (rlimb_calls A _ _ _ _ k hr1).mono ?_); rintro e w' ⟨rfl, rfl⟩)
          | (go_at_call 81; (with_reducible refine (rlimb_calls B _ _ _ _ k hr2).mono ?_); rintro e w' ⟨rfl, rfl⟩)
          | (at_builtin; refine wpList_app rfl (.tmp 36) (.tmp 41) 22 22 rfl (.inl rfl) (.inl rfl) w.heap.size A1 k c1 L rfl (hown.alloc _) _ 1 1 [v] rfl (rd_one _ v hv2) (by omega) (by simp; omega) ?_; intro A' c' w' hown' hb'))
        go_roundw
        case rel => exact ⟨k + 1, 0, A', c', L ++ [v], by omega, by go_num, by go_num, by omega, rfl, hown', (hb.alloc hbs _).trans hb', HS⟩
        case measure => simp [intOf]; omega
    · obtain rfl : n = k := by omega
      have HE := hide (sl_end HL.out.1 h.sm HL.out.2 HI.out)
      have hs1 := HI.out.2.1
      go_wp2_with (go_at_call 82; refine (rmake_at _ _ _ _ _ _ HE.out (hown.rd hs1) (by omega)).mono ?_; rintro e w2 ⟨A2, c2, rfl, hr, hb3⟩)
      go_ret2
      exact ⟨A2, c2, rfl, hr, below_then hb (Nat.le_refl _) hb3⟩
end Go.Proofs.YtnddhohjfjlaiaaGreatDoor

/-
  The walk of NaturalAdd.
-/
namespace Go.Proofs.YtnddhohjfjlaiaaGreatDoor
open Go.RowKit
set_option linter.unusedVariables false
set_option linter.unusedSimpArgs false

theorem val_of {xs : List Nat} {X : Nat} (h : val xs = X) : val xs = X := h
theorem add_at (A B : Option Addr) (n m c d : Nat) (xs ys : List Nat) (w : World) (X Y Z : Nat) (hx : val xs = X) (hy : val ys = Y) (hz : X + Y = Z) (h : Rd w A n c xs) (h2 : Rd w B m d ys) (hn : n ≤ 1048576) (hm : m ≤ 1048576) :
    Calls Tryz.prog 80 #[.slice A n c, .slice B m d] w (Gives w (dg Z)) := by
  subst hx hy hz
  exact add_calls A B n m c d xs ys w h h2 hn hm
theorem radd_at (A B : Option Addr) (n m c d : Nat) (xs ys : List Nat) (w : World) (X Y Z : Nat) (hx : val xs = X) (hy : val ys = Y) (hz : X + Y = Z) (h : Rd w A n c xs) (h2 : Rd w B m d ys) (hn : n ≤ 1048576) (hm : m ≤ 1048576) :
    Calls Tryz.prog 85 #[.slice A n c, .slice B m d] w (Gives w (dg Z)) := by
  subst hx hy hz
  exact radd_calls A B n m c d xs ys w h h2 hn hm
theorem dg_le {n k : Nat} (h : n < pw k) : (dg n).length ≤ k := len_dg_le h
theorem add_pw {x y k : Nat} (hx : x < pw k) (hy : y < pw k) : x + y < pw (k + 1) := by
  have := pw_pos k
  rw [pw]
  omega
theorem rd_lt {w : World} {A : Option Addr} {n c k : Nat} {xs : List Nat} (h : Rd w A n c xs) (hn : n ≤ k) : val xs < pw k := by
  have := val_lt h.sm
  rw [h.len] at this
  exact Nat.lt_of_lt_of_le this (pw_mono hn)
end Go.Proofs.YtnddhohjfjlaiaaGreatDoor

/-
  The walk of NaturalSub.
-/
namespace Go.Proofs.YtnddhohjfjlaiaaGreatDoor
open Go.RowKit
set_option linter.unusedVariables false
set_option linter.unusedSimpArgs false

theorem rsub_e0 (A B : Option Addr) (n m c d : Nat) (xs ys : List Nat) (w : World) (h : Rd w A n c xs) (h2 : Rd w B m d ys) (hn : n ≤ 1048576) (hm : m ≤ 1048576) (hlt : val xs < val ys) :
    Calls Tryz.prog 102 #[.slice A n c, .slice B m d] w fun e w' => ∃ A1 c1, e = .returned (.tuple #[.slice A1 0 c1, .int .i64 2]) ∧ Rd w' A1 0 c1 [] ∧ Below w.heap.size w w' := rsub_lt A B n m c d xs ys w h h2 hn hm hlt
end Go.Proofs.YtnddhohjfjlaiaaGreatDoor

/-
  The walk of NaturalCompare.
-/
namespace Go.Proofs.YtnddhohjfjlaiaaGreatDoor
open Go.RowKit
set_option linter.unusedVariables false
set_option linter.unusedSimpArgs false

theorem sg_neg (a b : Nat) : sg b a = - sg a b := by
  rcases Nat.lt_trichotomy a b with h | h | h
  · rw [sg_lt h, sg_gt h]; rfl
  · rw [sg_eq h, sg_eq h.symm]; rfl
  · rw [sg_gt h, sg_lt h]
theorem sg_bound (a b : Nat) : -1 ≤ sg a b ∧ sg a b ≤ 1 := by unfold sg; split <;> (try split) <;> omega
theorem sg_le {a b : Nat} : sg a b ≤ 0 ↔ a ≤ b := by unfold sg; split <;> (try split) <;> omega
theorem sg_add (a b c : Nat) : sg (a + c) (b + c) = sg a b := by
  unfold sg
  split <;> split <;> (try split) <;> (try split) <;> omega
theorem rcmp_b (A B : Option Addr) (n m c d : Nat) (xs ys : List Nat) (w : World) (r : Int) (h : Rd w A n c xs) (h2 : Rd w B m d ys) (hn : n ≤ 1048576) (hm : m ≤ 1048576) (hr : sg (val xs) (val ys) = r) :
    Calls Tryz.prog 56 #[.slice A n c, .slice B m d] w fun e w' => e = .returned (.int .i64 r) ∧ w = w' := rcmp_calls A B n m c d xs ys w r h h2 hn hm hr
end Go.Proofs.YtnddhohjfjlaiaaGreatDoor

/-
  The specification's Mul.
-/
namespace Go.Proofs.YtnddhohjfjlaiaaGreatDoor
open Go.RowKit
set_option linter.unusedVariables false
set_option linter.unusedSimpArgs false

def RmInv (P xs ys : List Nat) (n m i : Nat) : Prop := P.length = n + m + 1 ∧ Sm P ∧ (∀ j, i + m ≤ j → lim P j = 0) ∧ pv P (i + m) = pv xs i * val ys
theorem rm_start (xs ys : List Nat) (n m : Nat) : RmInv (zs (n + m + 1)) xs ys n m 0 := ⟨zs_len _, zs_sm _, fun j _ => zs_lim _ j, by rw [zs_pv, pv_zero, Nat.zero_mul]⟩
theorem rm_step {P T xs ys : List Nat} {n m i cc : Nat} (hi : i < n) (hy : ys.length = m) (hsy : Sm ys) (hx : lim xs i < 4294967296) (h : RmInv P xs ys n m i) (ha : AmInv P T ys i (lim xs i) (m + 1) cc) : RmInv T xs ys n m (i + 1) := by
  obtain ⟨h1, h2, h3, h4⟩ := h
  obtain ⟨a1, a2, a3, a4⟩ := ha
  have hz : lim P (i + m) = 0 := h3 _ (Nat.le_refl _)
  have e1 : pv (P.drop i) (m + 1) = pv (P.drop i) m := by rw [pv_succ, lim_drop, hz, Nat.mul_zero, Nat.add_zero]
  have l1 := pv_lt (h2.drop i) m
  have l2 := val_lt hsy
  rw [hy] at l2
  rw [pv_len (xs := ys) (by omega), e1] at a4
  have hcc : cc = 0 := by
    rcases Nat.eq_zero_or_pos cc with h0 | h0
    · exact h0
    · have h5 := Nat.le_mul_of_pos_right (pw (m + 1)) h0
      have h6 := Nat.mul_le_mul_left (val ys) (show lim xs i ≤ 4294967295 by omega)
      have e2 : pw (m + 1) = 4294967296 * pw m := rfl
      omega
  subst hcc
  rw [Nat.mul_zero, Nat.add_zero] at a4
  refine ⟨a1.trans h1, a2, fun j hj => (a3 j (by omega)).trans (h3 j (by omega)), ?_⟩
  rw [show i + 1 + m = i + (m + 1) by omega, pv_split, a4, pv_succ, Nat.add_mul, ← h4, pv_split P, pv_congr (xs := T) (ys := P) fun j hj => a3 j (.inl hj), Nat.mul_add, Nat.mul_assoc, Nat.mul_comm (lim xs i)]
  omega
theorem rm_end {P xs ys : List Nat} {n m : Nat} (hx : xs.length = n) (h : RmInv P xs ys n m n) : val P = val xs * val ys := by
  obtain ⟨h1, h2, h3, h4⟩ := h
  rw [← pv_full, h1, pv_succ, h3 _ (Nat.le_refl _), h4, Nat.mul_zero, Nat.add_zero, pv_len (by omega)]
set_option maxHeartbeats 1000000 in
theorem rmul_calls (A B : Option Addr) (n m c d : Nat) (xs ys : List Nat) (w : World) (h : Rd w A n c xs) (h2 : Rd w B m d ys) (hn : n ≤ 1048576) (hm : m ≤ 1048576) :
    Calls Tryz.prog 57 #[.slice A n c, .slice B m d] w (Gives w (dg (val xs * val ys))) := by
  have hmk := fun W => run_mk 22 (.inl rfl) (n + m + 1) ((n : Int) + (m : Int) + 1) (by omega) (by omega) W
  have HL := hide (And.intro h.len h2.len)
  go_enter Tryz.func57, Tryz.ntmps57
  go_wp2
  go_loopw [6] (fun i wr => ∃ (j : Nat) (P : List Nat), j ≤ n ∧ i = .int .i64 j ∧ Below w.heap.size w wr ∧ Blk wr w.heap.size (arr P) ∧ Hid (RmInv P xs ys n m j)) (fun i _ => n - (intOf i).toNat)
  case atStart => exact ⟨0, _, by omega, rfl, (Below.refl _ _).alloc (Nat.le_refl _) _, Blk.new _ _, rm_start _ _ _ _⟩
  case round =>
    obtain ⟨j, P, hj, rfl, hb, hbl, HI⟩ := hrel
    by_cases hjn : j < n
    · have hx := h.sm.lim j
      obtain ⟨wo, rfl⟩ : ∃ wo : World, wo = wr := ⟨_, rfl⟩
      go_wp2
      go_loopw [7, 8] (fun cy kk wi => ∃ (k cc : Nat) (T : List Nat), k ≤ m + 1 ∧ kk = .int .i64 k ∧ cy = .int .u64 cc ∧ cc ≤ 4294967295 ∧ Below w.heap.size w wi ∧ Blk wi w.heap.size (arr T) ∧ Hid (AmInv P T ys j (lim xs j) k cc)) (fun _ kk _ => m + 1 - (intOf kk).toNat)
      case atStart => exact ⟨0, 0, P, by omega, rfl, rfl, by omega, hb, hbl, am_start P ys j _ HI.out.2.1⟩
      case round =>
        obtain ⟨k, cc, T, hk, rfl, rfl, hcc, hb2, hbl2, HA⟩ := hrel
        by_cases hkm : k ≤ m
        · have hPl := HI.out.1
          have hok : j + k < T.length := by have := HA.out.1; omega
          have hbc : wr.cell? ⟨w.heap.size, j + k, none⟩ = some (.int .u32 (lim T (j + k) : Nat)) := blk_cell hbl2 hok
          have hbf := hbl2.frozen (j + k)
          have hsT := HA.out.2.1.lim (j + k)
          have hy := h2.sm.lim k
          obtain ⟨t, ht⟩ : ∃ t, t = cc + (lim xs j * lim ys k + lim T (j + k)) := ⟨_, rfl⟩
          have hxy := mul_bound hx hy
          have hxy0 : (0 : Int) ≤ (lim xs j : Int) * (lim ys k : Int) := Int.mul_nonneg (by omega) (by omega)
          have hxy1 : (lim xs j : Int) * (lim ys k : Int) ≤ 18446744065119617025 := by
            have : ((lim xs j * lim ys k : Nat) : Int) = (lim xs j : Int) * (lim ys k : Int) := by simp
            omega
          have hst := am_step (by omega) HA.out
          rw [← ht] at hst
          have ht1 : (cc : Int) + ((lim xs j : Int) * (lim ys k : Int) + (lim T (j + k) : Int)) = (t : Int) := by rw [ht]; simp
          have htb : t ≤ 18446744073709551615 := by omega
          obtain ⟨v, hv⟩ : ∃ v, v = t % 4294967296 := ⟨_, rfl⟩
          have hv1 : (t : Int) % 4294967296 = (v : Int) := by omega
          rw [← hv] at hst
          have HS := hide hst
          have HT1 := hide ht1
          have hr2 := h2.below hb2
          obtain ⟨b1, o1, rfl, -, hc1⟩ := (h.below hb2).get (k := j) hjn
          clear hst hv ht ht1 hPl
          go_wp2
          go_quiet ((go_at_call 81; exact quiet_left (rlimb_calls B m d ys _ k (hr2.below (below_drewN (Below.refl _ _) _)))))
          go_wp2
          go_roundw
          case rel =>
            rw [HT1.out, hv1]
            exact ⟨k + 1, t / 4294967296, _, by omega, by go_num, by go_num, by omega, (below_drewN hb2 _).setCell (Nat.le_refl _) _, blk_set (hbl2.drewN _) _ v, HS⟩
          case measure => simp [intOf]; omega
        · obtain rfl : m + 1 = k := by omega
          have HS := hide (rm_step hjn HL.out.2 h2.sm hx HI.out HA.out)
          go_wp2
          go_roundw
          case rel => exact ⟨j + 1, T, by omega, by go_num, hb2, hbl2, HS⟩
          case measure => simp [intOf]; omega
    · obtain rfl : n = j := by omega
      have HE := hide (rm_end HL.out.1 HI.out)
      have hr := blk_rd0 (c := n + m + 1) hbl HI.out.2.1 HI.out.1 (by omega)
      go_wp2_with (go_at_call 82; refine (rmake_at _ _ _ _ _ _ HE.out hr (by omega)).mono ?_; rintro e w2 ⟨A2, c2, rfl, hr3, hb3⟩)
      go_ret
      exact ⟨A2, c2, rfl, hr3, below_then hb (Nat.le_refl _) hb3⟩
end Go.Proofs.YtnddhohjfjlaiaaGreatDoor

/-
  The specification's shifts.
-/
namespace Go.Proofs.YtnddhohjfjlaiaaGreatDoor
open Go.RowKit
set_option linter.unusedVariables false
set_option linter.unusedSimpArgs false

theorem own_of_blk {w : World} {base g n : Nat} {xs : List Nat} (h : Blk w g (arr xs)) (hb : base ≤ g) (hn : xs.length = n) (hm : n ≤ 4194304) : Own w base (some ⟨g, 0, none⟩) n n xs := by
  refine ⟨by simp [hn], .inr ⟨g, n, arr xs, rfl, hb, h, Nat.le_refl _, by unfold maxLen; omega, by rw [arr_size, hn, Nat.mul_one], ?_⟩⟩
  rw [Nat.mul_one]
  unfold arr
  rw [List.take_of_length_le (by simp [hn])]
theorem rlimb_int (A : Option Addr) (n c : Nat) (xs : List Nat) (w : World) (i : Int) (k : Nat) (hi : i = (k : Int)) (h : Rd w A n c xs) :
    Calls Tryz.prog 81 #[.slice A n c, .int .i64 i] w fun e w' => e = .returned (.int .u32 (lim xs k : Nat)) ∧ w = w' := by
  subst hi
  exact rlimb_calls A n c xs w k h
def RshInv (L xs : List Nat) (k j cc : Nat) : Prop := L.length = k / 32 + j ∧ Sm L ∧ cc < 2 ^ (k % 32) ∧ val L + pw (k / 32 + j) * cc = pv xs j * 2 ^ k
theorem rsh_step {L xs : List Nat} {k j cc t : Nat} (hx : lim xs j < 4294967296) (ht : t = cc + lim xs j * 2 ^ (k % 32)) (h : RshInv L xs k j cc) : RshInv (L ++ [t % 4294967296]) xs k (j + 1) (t / 4294967296) := by
  obtain ⟨h1, h2, h3, h4⟩ := h
  refine ⟨by simp [h1]; omega, h2.snoc (by omega), ?_, ?_⟩
  · apply Nat.div_lt_of_lt_mul
    have := Nat.mul_le_mul_right (2 ^ (k % 32)) (show lim xs j + 1 ≤ 4294967296 by omega)
    rw [Nat.add_mul, Nat.one_mul] at this
    omega
  · have e : pw (k / 32 + j) * t = pw (k / 32 + j) * (t % 4294967296) + pw (k / 32 + j) * (4294967296 * (t / 4294967296)) := by rw [← Nat.mul_add, Nat.mod_add_div]
    have e2 : pw (k / 32 + j) * t = pw (k / 32 + j) * cc + pw j * lim xs j * 2 ^ k := by
      rw [ht, Nat.mul_add, pow_split k, pw_add, Nat.mul_comm (pw (k / 32)) (pw j), Nat.mul_assoc (pw j), Nat.mul_assoc (pw j), Nat.mul_left_comm (pw (k / 32)), Nat.mul_assoc (pw j)]
    rw [val_snoc, h1, pv_succ, Nat.add_mul, ← h4, show k / 32 + (j + 1) = k / 32 + j + 1 by omega, pw]
    rw [← Nat.mul_assoc (pw (k / 32 + j)) 4294967296, Nat.mul_comm (pw (k / 32 + j)) 4294967296] at e
    omega
theorem rsh_end {L xs : List Nat} {k n cc : Nat} (hn : xs.length = n) (h : RshInv L xs k n cc) : val (L ++ [cc]) = val xs * 2 ^ k := by
  obtain ⟨h1, h2, h3, h4⟩ := h
  rw [val_snoc, h1, h4, pv_len (by omega)]
theorem two31 (k : Nat) : 2 ^ (k % 32) ≤ 2147483648 := by
  have := Nat.pow_le_pow_right (n := 2) (by omega) (show k % 32 ≤ 31 by omega)
  simpa using this
set_option maxHeartbeats 1000000 in
theorem rshl_calls (A : Option Addr) (n c : Nat) (xs : List Nat) (w : World) (k : Nat) (h : Rd w A n c xs) (hn : n ≤ 1048576) (hk : k ≤ 1048576) :
    Calls Tryz.prog 60 #[.slice A n c, .int .i64 (k : Int)] w (Gives w (dg (val xs * 2 ^ k))) := by
  have hmk := fun W => run_mk 22 (.inl rfl) (k / 32) ((k : Int) / 32) (by omega) (by omega) W
  have HL := hide h.len
  go_enter Tryz.func60, Tryz.ntmps60
  go_wp2
  go_loopw [5, 6, 7] (fun o cy i wr => ∃ (j cc : Nat) (A1 : Option Addr) (c1 : Nat) (L : List Nat), j ≤ n ∧ i = .int .i64 j ∧ cy = .int .u64 cc ∧ cc ≤ 2147483647 ∧ o = .slice A1 (k / 32 + j) c1 ∧ Own wr w.heap.size A1 (k / 32 + j) c1 L ∧ Below w.heap.size w wr ∧ Hid (RshInv L xs k j cc)) (fun _ _ i _ => n - (intOf i).toNat)
  case atStart =>
    refine ⟨0, 0, _, _, zs (k / 32), by omega, rfl, rfl, by omega, rfl, own_of_blk (Blk.new _ _) (Nat.le_refl _) (zs_len _) (by omega), (Below.refl _ _).alloc (Nat.le_refl _) _, ⟨by rw [zs_len]; rfl, zs_sm _, Nat.two_pow_pos _, by rw [zs_val, pv_zero]; simp⟩⟩
  case round =>
    obtain ⟨j, cc, A1, c1, L, hj, rfl, rfl, hcc, rfl, hown, hb, HI⟩ := hrel
    have hbs := hb.size
    by_cases hjn : j < n
    · have hx := h.sm.lim j
      have h31 := two31 k
      have hlt := HI.out.2.2.1
      obtain ⟨wd, hwd⟩ : ∃ wd, wd = lim xs j * 2 ^ (k % 32) := ⟨_, rfl⟩
      have hwb : wd < 9223372036854775808 := by rw [hwd]; have := Nat.mul_le_mul (show lim xs j ≤ 4294967295 by omega) h31; omega
      have hwd1 : IntKind.u64.wrap ((lim xs j : Int) * 2 ^ (k % 32)) = (wd : Int) := by
        rw [hwd] at hwb
        rw [hwd, IntWalk.u64_in]
        · simp
        · have : ((lim xs j * 2 ^ (k % 32) : Nat) : Int) = (lim xs j : Int) * 2 ^ (k % 32) := by simp
          omega
      obtain ⟨t, ht⟩ : ∃ t, t = cc + lim xs j * 2 ^ (k % 32) := ⟨_, rfl⟩
      have hor : bits .or .u64 (cc : Int) (wd : Int) = (t : Int) := by
        have := u64_or_nat cc wd (by omega) (by omega)
        rw [hwd, Nat.mul_comm, or_add hlt, Nat.mul_comm (2 ^ (k % 32)), ← ht] at this
        rw [hwd]
        exact this
      have hst := rsh_step hx ht HI.out
      have htb : t ≤ 18446744073709551615 := by omega
      have hcb := hst.2.2.1
      obtain ⟨v, hv⟩ : ∃ v, v = t % 4294967296 := ⟨_, rfl⟩
      have hv1 : (t : Int) % 4294967296 = (v : Int) := by omega
      have hv2 : v < 4294967296 := by omega
      rw [← hv] at hst
      have hcb2 : t / 4294967296 ≤ 2147483647 := by omega
      have HS := hide hst
      clear hst hv ht hwd hcb h31 hlt
      obtain ⟨b1, o1, rfl, -, hc1⟩ := (h.below hb).get (k := j) hjn
      go_wp2_with (at_builtin; refine wpList_app rfl (.tmp 27) (.tmp 30) 22 22 rfl (.inl rfl) (.inl rfl) w.heap.size A1 (k / 32 + j) c1 L rfl (hown.alloc _) _ 1 1 [v] rfl (rd_one _ v hv2) (by omega) (by simp; omega) ?_; intro A' c' w' hown' hb')
      go_roundw
      case rel => exact ⟨j + 1, t / 4294967296, A', c', L ++ [v], by omega, by go_num, by go_num, hcb2, rfl, hown', (hb.alloc hbs _).trans hb', HS⟩
      case measure => simp [intOf]; omega
    · obtain rfl : n = j := by omega
      have HE := hide (rsh_end HL.out HI.out)
      have hs1 : Sm (L ++ [cc]) := HI.out.2.1.snoc (by omega)
      have hb2 : ∀ o, Below w.heap.size w (wr.alloc o) := fun o => hb.alloc hbs o
      go_wp2_with (first
          | (at_builtin; refine wpList_app rfl (.tmp 34) (.tmp 37) 22 22 rfl (.inl rfl) (.inl rfl) w.heap.size A1 (k / 32 + n) c1 L rfl (hown.alloc _) _ 1 1 [cc] rfl (rd_one _ cc (by omega)) (by omega) (by simp; omega) ?_; intro A' c' w' hown' hb')
          | (go_at_call 82; refine (rmake_at _ _ _ _ _ _ HE.out (hown'.rd hs1) (by omega)).mono ?_; rintro e w2 ⟨A2, c2, rfl, hr, hb3⟩))
      go_ret
      exact ⟨A2, c2, rfl, hr, below_then ((hb2 _).trans hb') (Nat.le_refl _) hb3⟩
end Go.Proofs.YtnddhohjfjlaiaaGreatDoor

/-
  The specification's shr, Shl, Shr.
-/
namespace Go.Proofs.YtnddhohjfjlaiaaGreatDoor
open Go.RowKit
set_option linter.unusedVariables false
set_option linter.unusedSimpArgs false

def RhrInv (L xs : List Nat) (k j : Nat) : Prop := L.length = j ∧ Sm L ∧ val L = val (xs.drop (k / 32)) / 2 ^ (k % 32) % pw j
theorem rhr_step {L xs : List Nat} {k i j v : Nat} (hs : Sm xs) (hi : i = k / 32 + j) (hv : v = (lim xs i + 4294967296 * lim xs (i + 1)) / 2 ^ (k % 32) % 4294967296) (h : RhrInv L xs k j) : RhrInv (L ++ [v]) xs k (j + 1) := by
  obtain ⟨h1, h2, h3⟩ := h
  refine ⟨by simp [h1], h2.snoc (by omega), ?_⟩
  have hw := shr_word (ys := xs.drop (k / 32)) (s := k % 32) (Nat.mod_lt k (by omega)) (hs.drop _) j
  rw [lim_drop, lim_drop, ← Nat.add_assoc, ← hi, ← hv] at hw
  rw [val_snoc, h1, h3, ← hw, pw, Nat.mul_comm 4294967296, Nat.mod_mul]
theorem rhr_end {L xs : List Nat} {k n j : Nat} (hs : Sm xs) (hn : xs.length = n) (hj : n ≤ k / 32 + j) (h : RhrInv L xs k j) : val L = val xs / 2 ^ k := by
  obtain ⟨h1, h2, h3⟩ := h
  rw [h3, Nat.mod_eq_of_lt, shr_whole hs]
  have hl := val_lt (hs.drop (k / 32))
  exact Nat.lt_of_le_of_lt (Nat.div_le_self _ _) (Nat.lt_of_lt_of_le hl (pw_mono (by rw [List.length_drop]; omega)))
set_option maxHeartbeats 1000000 in
theorem rshr_calls (A : Option Addr) (n c : Nat) (xs : List Nat) (w : World) (k : Nat) (h : Rd w A n c xs) (hn : n ≤ 1048576) (hk : k ≤ 1048576) :
    Calls Tryz.prog 103 #[.slice A n c, .int .i64 (k : Int)] w (Gives w (dg (val xs / 2 ^ k))) := by
  have HL := hide h.len
  go_enter Tryz.func103, Tryz.ntmps103
  go_wp2
  go_loopw [5, 6] (fun o ii wr => ∃ (i j : Nat) (A1 : Option Addr) (c1 : Nat) (L : List Nat), i ≤ 2097152 ∧ j ≤ 1048576 ∧ ii = .int .i64 i ∧ o = .slice A1 j c1 ∧ Own wr w.heap.size A1 j c1 L ∧ Below w.heap.size w wr ∧ Hid (i = k / 32 + j ∧ RhrInv L xs k j)) (fun _ ii _ => n - (intOf ii).toNat)
  case atStart =>
    exact ⟨k / 32, 0, none, 0, [], by omega, by omega, congrArg _ (by omega), rfl, Own.nil _ _, Below.refl _ _, rfl, rfl, Sm.nil, by rw [pw, Nat.mod_one]; rfl⟩
  case round =>
    obtain ⟨i, j, A1, c1, L, hib, hjb, rfl, rfl, hown, hb, HI⟩ := hrel
    have hbs := hb.size
    by_cases hin : i < n
    · have hjn : j + 1 ≤ 1048576 := by have := HI.out.1; omega
      have hl1 := h.sm.lim i
      have hl2 := h.sm.lim (i + 1)
      have hz := or_hi hl1 hl2
      obtain ⟨z, hzz⟩ : ∃ z, z = lim xs i + 4294967296 * lim xs (i + 1) := ⟨_, rfl⟩
      rw [← hzz] at hz
      obtain ⟨v, hv⟩ : ∃ v, v = z / 2 ^ (k % 32) % 4294967296 := ⟨_, rfl⟩
      have hv1 : (z : Int) / 2 ^ (k % 32) % 4294967296 = (v : Int) := by rw [hv]; simp
      have hv2 : v < 4294967296 := by omega
      have HS := hide (And.intro (show i + 1 = k / 32 + (j + 1) by have := HI.out.1; omega) (rhr_step (v := v) h.sm HI.out.1 (by rw [hv, hzz]) HI.out.2))
      have HJ := hide (show ((i : Int) + 1) = ((i + 1 : Nat) : Int) by omega)
      have hr2 := h.below hb
      clear hv hzz
      have HH := hide h
      obtain ⟨b1, o1, hA, -, hc1⟩ := hr2.get (k := i) hin
      subst hA
      go_wp2
      go_quiet ((go_at_call 81; exact quiet_left (rlimb_int _ n c _ _ _ (i + 1) HJ.out (hr2.below (below_drewN (Below.refl _ _) _)))))
      go_wp2_with (at_builtin; refine wpList_app rfl (.tmp 28) (.tmp 34) 22 22 rfl (.inl rfl) (.inl rfl) w.heap.size A1 j c1 L rfl ((hown.drewN _).alloc _) _ 1 1 [v] rfl (rd_one _ v hv2) (by omega) (by simp; omega) ?_; intro A' c' w' hown' hb')
      go_roundw
      case rel => exact ⟨i + 1, j + 1, A', c', L ++ [v], by omega, hjn, by go_num, rfl, hown', ((below_drewN hb _).alloc hbs _).trans hb', HS⟩
      case measure => simp [intOf]; omega
    · have HE := hide (rhr_end h.sm HL.out (by have := HI.out.1; omega) HI.out.2)
      have hs1 := HI.out.2.2.1
      go_wp2_with (go_at_call 82; refine (rmake_at _ _ _ _ _ _ HE.out (hown.rd hs1) (by omega)).mono ?_; rintro e w2 ⟨A2, c2, rfl, hr, hb3⟩)
      go_ret
      exact ⟨A2, c2, rfl, hr, below_then hb (Nat.le_refl _) hb3⟩

theorem rshl_bad (A : Option Addr) (n c : Nat) (w : World) (k : Int) (hk : k < 0 ∨ 1048576 < k) :
    Calls Tryz.prog 36 #[.slice A n c, .int .i64 k] w (GivesE w [] 2) := by
  by_cases h0 : k < 0
  · clear hk
    go_enter Tryz.func36, Tryz.ntmps36
    go_wp2
    go_ret2
    exact ⟨none, 0, rfl, Rd.empty _ _ _, Below.refl _ _⟩
  · have h1 : 1048576 < k := by omega
    have hd : decide (k < 0) = false := by simp; omega
    clear hk
    go_enter Tryz.func36, Tryz.ntmps36
    go_wp2
    go_ret2
    exact ⟨none, 0, rfl, Rd.empty _ _ _, Below.refl _ _⟩
theorem rshr_bad (A : Option Addr) (n c : Nat) (w : World) (k : Int) (hk : k < 0 ∨ 1048576 < k) :
    Calls Tryz.prog 86 #[.slice A n c, .int .i64 k] w (GivesE w [] 2) := by
  by_cases h0 : k < 0
  · clear hk
    go_enter Tryz.func86, Tryz.ntmps86
    go_wp2
    go_ret2
    exact ⟨none, 0, rfl, Rd.empty _ _ _, Below.refl _ _⟩
  · have h1 : 1048576 < k := by omega
    have hd : decide (k < 0) = false := by simp; omega
    clear hk
    go_enter Tryz.func86, Tryz.ntmps86
    go_wp2
    go_ret2
    exact ⟨none, 0, rfl, Rd.empty _ _ _, Below.refl _ _⟩
theorem rShl_ok (A : Option Addr) (n c : Nat) (xs : List Nat) (w : World) (k : Nat) (h : Rd w A n c xs) (hn : n ≤ 1048576) (hk : k ≤ 1048576) :
    Calls Tryz.prog 36 #[.slice A n c, .int .i64 (k : Int)] w (GivesE w (dg (val xs * 2 ^ k)) 0) := by
  have hd1 : decide ((k : Int) < 0) = false := by simp
  have hd2 : decide ((1048576 : Int) < (k : Int)) = false := by simp; omega
  go_enter Tryz.func36, Tryz.ntmps36
  go_wp2_with (go_at_call 60; refine (rshl_calls A n c xs _ k h hn hk).mono ?_; rintro e w' ⟨A1, c1, rfl, hr, hb⟩)
  go_ret2
  exact ⟨A1, c1, rfl, hr, hb⟩
theorem rShr_ok (A : Option Addr) (n c : Nat) (xs : List Nat) (w : World) (k : Nat) (h : Rd w A n c xs) (hn : n ≤ 1048576) (hk : k ≤ 1048576) :
    Calls Tryz.prog 86 #[.slice A n c, .int .i64 (k : Int)] w (GivesE w (dg (val xs / 2 ^ k)) 0) := by
  have hd1 : decide ((k : Int) < 0) = false := by simp
  have hd2 : decide ((1048576 : Int) < (k : Int)) = false := by simp; omega
  go_enter Tryz.func86, Tryz.ntmps86
  go_wp2_with (go_at_call 103; refine (rshr_calls A n c xs _ k h hn hk).mono ?_; rintro e w' ⟨A1, c1, rfl, hr, hb⟩)
  go_ret2
  exact ⟨A1, c1, rfl, hr, hb⟩
end Go.Proofs.YtnddhohjfjlaiaaGreatDoor

/-
  The walk of NaturalMul.
-/
namespace Go.Proofs.YtnddhohjfjlaiaaGreatDoor
open Go.RowKit
set_option linter.unusedVariables false
set_option linter.unusedSimpArgs false

theorem mul_at (A B : Option Addr) (n m c d : Nat) (xs ys : List Nat) (w : World) (X Y Z : Nat) (hx : val xs = X) (hy : val ys = Y) (hz : X * Y = Z) (h : Rd w A n c xs) (h2 : Rd w B m d ys) (hn : n ≤ 1048576) (hm : m ≤ 1048576) :
    Calls Tryz.prog 45 #[.slice A n c, .slice B m d] w (Gives w (dg Z)) := by
  subst hx hy hz
  exact mul_calls A B n m c d xs ys w h h2 hn hm
theorem rmul_at (A B : Option Addr) (n m c d : Nat) (xs ys : List Nat) (w : World) (X Y Z : Nat) (hx : val xs = X) (hy : val ys = Y) (hz : X * Y = Z) (h : Rd w A n c xs) (h2 : Rd w B m d ys) (hn : n ≤ 1048576) (hm : m ≤ 1048576) :
    Calls Tryz.prog 57 #[.slice A n c, .slice B m d] w (Gives w (dg Z)) := by
  subst hx hy hz
  exact rmul_calls A B n m c d xs ys w h h2 hn hm
theorem mul_pw {x y j k : Nat} (hx : x < pw j) (hy : y < pw k) : x * y < pw (j + k) := by
  rw [pw_add]
  rcases Nat.eq_zero_or_pos y with h | h
  · rw [h, Nat.mul_zero]; exact Nat.mul_pos (pw_pos j) (pw_pos k)
  · exact Nat.lt_of_lt_of_le (Nat.mul_lt_mul_of_pos_right hx h) (Nat.mul_le_mul_left _ (Nat.le_of_lt hy))
end Go.Proofs.YtnddhohjfjlaiaaGreatDoor

/-
  The walk of NaturalDivide.
-/
namespace Go.Proofs.YtnddhohjfjlaiaaGreatDoor
open Go.RowKit
set_option linter.unusedVariables false
set_option linter.unusedSimpArgs false

theorem divmod_at (A B : Option Addr) (n m c d : Nat) (xs ys : List Nat) (w : World) (X Y Q R : Nat) (hx : val xs = X) (hy : val ys = Y) (hq : X / Y = Q) (hr : X % Y = R) (h0 : 0 < Y) (h : Rd w A n c xs) (h2 : Rd w B m d ys) (hn : n ≤ 65536) (hm : m ≤ 65536) :
    Calls Tryz.prog 79 #[.slice A n c, .slice B m d] w (Gives3 w (dg Q) (dg R) 0) := by
  subst hx hy hq hr
  exact divmod_calls A B n m c d xs ys w h h2 hn hm h0
theorem dm0_at (A B : Option Addr) (n m c d : Nat) (xs ys : List Nat) (w : World) (h0 : val ys = 0) (h : Rd w A n c xs) (h2 : Rd w B m d ys) (hn : n ≤ 65536) (hm : m ≤ 65536) :
    Calls Tryz.prog 79 #[.slice A n c, .slice B m d] w fun e w' => ∃ A1 c1 B1 d1, e = .returned (.tuple #[.slice A1 0 c1, .slice B1 0 d1, .int .i64 3]) ∧ Rd w' A1 0 c1 [] ∧ Rd w' B1 0 d1 [] ∧ Below w.heap.size w w' :=
  dm_zero A B n m c d xs ys w h h2 hn hm h0
theorem rmake_len (A : Option Addr) (n c : Nat) (xs : List Nat) (w : World) (L : Nat) (hL : (dg (val xs)).length = L) (h : Rd w A n c xs) (hn : n ≤ 4194304) :
    Calls Tryz.prog 82 #[.slice A n c] w fun e w' => ∃ A1 c1, e = .returned (.slice A1 L c1) ∧ Rd w' A1 L c1 (dg (val xs)) ∧ Below w.heap.size w w' := by
  subst hL
  exact rmake_calls A n c xs w h hn
theorem rcmp_at (A B : Option Addr) (n m c d : Nat) (xs ys : List Nat) (w : World) (r : Int) (hr : sg (val xs) (val ys) = r) (h : Rd w A n c xs) (h2 : Rd w B m d ys) (hn : n ≤ 1048576) (hm : m ≤ 1048576) :
    Calls Tryz.prog 56 #[.slice A n c, .slice B m d] w fun e w' => e = .returned (.int .i64 r) ∧ w = w' := rcmp_calls A B n m c d xs ys w r h h2 hn hm hr
end Go.Proofs.YtnddhohjfjlaiaaGreatDoor

/-
  Plain facts on Lehmer's method: the cofactors of leading steps, and what they make of the whole numbers.
-/
namespace Go.Proofs.YtnddhohjfjlaiaaGreatDoor
set_option linter.unusedVariables false
set_option linter.unusedSimpArgs false

/-- The remainders x and y of x0 and y0, with their cofactors. -/
structure Cof (x0 y0 a b c d : Nat) (odd : Bool) (x y : Nat) : Prop where
  inv0 : x0 = d * x + b * y
  inv1 : y0 = c * x + a * y
  det : if odd then b * c = a * d + 1 else a * d = b * c + 1
  cd : c ≤ d
  bd : b ≤ d
  d1 : 1 ≤ d
  yx : y ≤ x
  ab : (a = 1 ∧ b = 0 ∧ c = 0 ∧ d = 1 ∧ odd = false) ∨ (1 ≤ c ∧ 1 ≤ b ∧ a ≤ b)
theorem cof_start {x y : Nat} (h : y ≤ x) : Cof x y 1 0 0 1 false x y := ⟨by omega, by omega, by simp, by omega, by omega, by omega, h, .inl ⟨rfl, rfl, rfl, rfl, rfl⟩⟩
theorem cof_step {x0 y0 a b c d x y : Nat} {odd : Bool} (h : Cof x0 y0 a b c d odd x y) (hy : 0 < y) : Cof x0 y0 c d (a + x / y * c) (b + x / y * d) (!odd) y (x % y) := by
  obtain ⟨h0, h1, h2, h3, h4, h5, h6, h7⟩ := h
  have hq : 1 ≤ x / y := (Nat.le_div_iff_mul_le hy).2 (by omega)
  have hx := Nat.div_add_mod x y
  generalize x / y = q at *
  generalize hr : x % y = r at *
  have hry : r < y := by rw [← hr]; exact Nat.mod_lt _ hy
  have hqc := Nat.le_mul_of_pos_left c hq
  have hqd := Nat.le_mul_of_pos_left d hq
  have hqcd := Nat.mul_le_mul_left q h3
  refine ⟨?_, ?_, ?_, ?_, by omega, by omega, by omega, ?_⟩
  · rw [h0, ← hx, Nat.mul_add, Nat.add_mul, Nat.mul_comm y q, ← Nat.mul_assoc, Nat.mul_comm d q]
    omega
  · rw [h1, ← hx, Nat.mul_add, Nat.add_mul, Nat.mul_comm y q, ← Nat.mul_assoc, Nat.mul_comm c q]
    omega
  · cases odd
    · simp only [Bool.not_false, if_true] at h2 ⊢
      rw [Nat.mul_add, Nat.mul_add, Nat.mul_left_comm d q c, Nat.mul_left_comm c q d, Nat.mul_comm d c, Nat.mul_comm d a, Nat.mul_comm c b]
      simp only [Bool.false_eq_true, if_false] at h2
      omega
    · simp only [Bool.not_true, Bool.false_eq_true, if_false, if_true] at h2 ⊢
      rw [Nat.mul_add, Nat.mul_add, Nat.mul_left_comm d q c, Nat.mul_left_comm c q d, Nat.mul_comm d c, Nat.mul_comm d a, Nat.mul_comm c b]
      omega
  · rcases h7 with ⟨rfl, rfl, rfl, rfl, _⟩ | h7
    · omega
    · omega
  · right
    rcases h7 with ⟨rfl, rfl, rfl, rfl, _⟩ | h7
    · omega
    · omega
/-- No cofactor of a state at which Collins's condition may be asked exceeds a word. -/
theorem cof_word {x0 y0 a b c d x y : Nat} {odd : Bool} (h : Cof x0 y0 a b c d odd x y) (hx0 : x0 ≤ 18446744073709551615) (hx : 1 ≤ x) : d ≤ 18446744073709551615 ∧ a ≤ d ∧ (d ≤ y → d ≤ 4294967295) := by
  have h0 := h.inv0
  have h1 := Nat.le_mul_of_pos_right d hx
  have had : a ≤ d := by
    rcases h.ab with ⟨rfl, rfl, rfl, rfl, _⟩ | h7
    · omega
    · have := h.bd; omega
  have hby := Nat.zero_le (b * y)
  refine ⟨by omega, had, fun hd => ?_⟩
  have h2 := Nat.mul_le_mul_left d (show d ≤ x by have := h.yx; omega)
  rcases Nat.lt_or_ge 4294967295 d with h3 | h3
  · have h4 := Nat.mul_le_mul (show 4294967296 ≤ d from h3) (show 4294967296 ≤ d from h3)
    omega
  · exact h3
/-- What the cofactors make of whole numbers whose leading bits are x0 and y0. -/
theorem cof_whole {x0 y0 a b c d x y A B S α β : Nat} {odd : Bool} (h : Cof x0 y0 a b c d odd x y) (hb : 1 ≤ b) (hA : A = x0 * S + α) (hB : B = y0 * S + β) (hα : α < S) (hβ : β < S) (h1 : d ≤ y) (h2 : b + d ≤ x - y) :
    ∃ A' B', (if odd then b * B = a * A + A' ∧ c * A = d * B + B' else a * A = b * B + A' ∧ d * B = c * A + B') ∧ B' < A' ∧ A' ≤ B ∧ Nat.gcd A' B' = Nat.gcd A B := by
  obtain ⟨h0, h1', hdet, hcd, hbd, hd1, hyx, hab⟩ := h
  have hc : 1 ≤ c ∧ a ≤ b := by
    rcases hab with ⟨_, hb0, _⟩ | h7
    · omega
    · exact ⟨h7.1, h7.2.2⟩
  have fin : ∀ A' B', (if odd then b * B = a * A + A' ∧ c * A = d * B + B' else a * A = b * B + A' ∧ d * B = c * A + B') → A' ≤ B ∧ Nat.gcd A' B' = Nat.gcd A B := by
    intro A' B' hAB
    have hinv : B = c * A' + a * B' ∧ A = d * A' + b * B' := by
      cases odd
      · simp only [Bool.false_eq_true, if_false] at hAB hdet
        have k1 : c * (a * A) = c * (b * B) + c * A' := by rw [← Nat.mul_add, ← hAB.1]
        have k2 : a * (d * B) = a * (c * A) + a * B' := by rw [← Nat.mul_add, ← hAB.2]
        have k3 : d * (a * A) = d * (b * B) + d * A' := by rw [← Nat.mul_add, ← hAB.1]
        have k4 : b * (d * B) = b * (c * A) + b * B' := by rw [← Nat.mul_add, ← hAB.2]
        have k5 : a * d * B = b * c * B + B := by rw [hdet, Nat.add_mul, Nat.one_mul]
        have k6 : a * d * A = b * c * A + A := by rw [hdet, Nat.add_mul, Nat.one_mul]
        rw [Nat.mul_assoc, Nat.mul_assoc] at k5 k6
        rw [Nat.mul_left_comm c a A, Nat.mul_left_comm c b B] at k1
        rw [Nat.mul_left_comm d a A, Nat.mul_left_comm d b B] at k3
        omega
      · simp only [if_true] at hAB hdet
        have k1 : c * (b * B) = c * (a * A) + c * A' := by rw [← Nat.mul_add, ← hAB.1]
        have k2 : a * (c * A) = a * (d * B) + a * B' := by rw [← Nat.mul_add, ← hAB.2]
        have k3 : d * (b * B) = d * (a * A) + d * A' := by rw [← Nat.mul_add, ← hAB.1]
        have k4 : b * (c * A) = b * (d * B) + b * B' := by rw [← Nat.mul_add, ← hAB.2]
        have k5 : b * c * B = a * d * B + B := by rw [hdet, Nat.add_mul, Nat.one_mul]
        have k6 : b * c * A = a * d * A + A := by rw [hdet, Nat.add_mul, Nat.one_mul]
        rw [Nat.mul_assoc, Nat.mul_assoc] at k5 k6
        rw [Nat.mul_left_comm c b B, Nat.mul_left_comm c a A] at k1
        rw [Nat.mul_left_comm d b B, Nat.mul_left_comm d a A] at k3
        omega
    refine ⟨?_, ?_⟩
    · have := Nat.le_mul_of_pos_left A' hc.1
      have := Nat.zero_le (a * B')
      omega
    · apply Nat.dvd_antisymm
      · apply Nat.dvd_gcd
        · rw [hinv.2]
          exact Nat.dvd_add (Nat.dvd_trans (Nat.gcd_dvd_left _ _) (Nat.dvd_mul_left _ _)) (Nat.dvd_trans (Nat.gcd_dvd_right _ _) (Nat.dvd_mul_left _ _))
        · rw [hinv.1]
          exact Nat.dvd_add (Nat.dvd_trans (Nat.gcd_dvd_left _ _) (Nat.dvd_mul_left _ _)) (Nat.dvd_trans (Nat.gcd_dvd_right _ _) (Nat.dvd_mul_left _ _))
      · have gA : ∀ k, Nat.gcd A B ∣ k * A := fun k => Nat.dvd_trans (Nat.gcd_dvd_left _ _) (Nat.dvd_mul_left _ _)
        have gB : ∀ k, Nat.gcd A B ∣ k * B := fun k => Nat.dvd_trans (Nat.gcd_dvd_right _ _) (Nat.dvd_mul_left _ _)
        cases odd
        · simp only [Bool.false_eq_true, if_false] at hAB
          exact Nat.dvd_gcd ((Nat.dvd_add_right (gB b)).1 (hAB.1 ▸ gA a)) ((Nat.dvd_add_right (gA c)).1 (hAB.2 ▸ gB d))
        · simp only [if_true] at hAB
          exact Nat.dvd_gcd ((Nat.dvd_add_right (gA a)).1 (hAB.1 ▸ gB b)) ((Nat.dvd_add_right (gB d)).1 (hAB.2 ▸ gA c))
  -- the signs and the order, from the leading bits
  have eA : ∀ k, k * A = k * x0 * S + k * α := fun k => by rw [hA, Nat.mul_add, Nat.mul_assoc]
  have eB : ∀ k, k * B = k * y0 * S + k * β := fun k => by rw [hB, Nat.mul_add, Nat.mul_assoc]
  cases odd
  · simp only [Bool.false_eq_true, if_false] at hdet fin ⊢
    have p1 : a * x0 = b * y0 + x := by
      rw [h0, h1', Nat.mul_add, Nat.mul_add, ← Nat.mul_assoc, hdet, Nat.add_mul, Nat.one_mul, ← Nat.mul_assoc b c x, Nat.mul_left_comm b a y]
      omega
    have p2 : d * y0 = c * x0 + y := by
      rw [h0, h1', Nat.mul_add, Nat.mul_add, ← Nat.mul_assoc d a y, Nat.mul_comm d a, hdet, Nat.add_mul, Nat.one_mul, Nat.mul_left_comm d c x, ← Nat.mul_assoc c b y, Nat.mul_comm c b]
      omega
    have q1 : b * β ≤ x * S := Nat.le_trans (Nat.mul_le_mul_left b (Nat.le_of_lt hβ)) (Nat.mul_le_mul_right S (by omega))
    have q2 : c * α ≤ y * S := Nat.le_trans (Nat.mul_le_mul_left c (Nat.le_of_lt hα)) (Nat.mul_le_mul_right S (by omega))
    have q3 : (b + d) * β < (b + d) * S := Nat.mul_lt_mul_of_pos_left hβ (by omega)
    have q4 : (b + d) * S ≤ (x - y) * S := Nat.mul_le_mul_right S h2
    have q5 : (x - y) * S + y * S = x * S := by rw [← Nat.add_mul]; congr 1; omega
    have e1 := eA a
    have e2 := eB b
    have e3 := eB d
    have e4 := eA c
    rw [p1, Nat.add_mul] at e1
    rw [p2, Nat.add_mul] at e3
    rw [Nat.add_mul] at q3 q4
    rw [Nat.add_mul] at q3
    refine ⟨a * A - b * B, d * B - c * A, ⟨by omega, by omega⟩, by omega, ?_⟩
    exact fin _ _ ⟨by omega, by omega⟩
  · simp only [if_true] at hdet fin ⊢
    have p1 : b * y0 = a * x0 + x := by
      rw [h0, h1', Nat.mul_add, Nat.mul_add, ← Nat.mul_assoc, hdet, Nat.add_mul, Nat.one_mul, ← Nat.mul_assoc a d x, Nat.mul_left_comm b a y]
      omega
    have p2 : c * x0 = d * y0 + y := by
      rw [h0, h1', Nat.mul_add, Nat.mul_add, ← Nat.mul_assoc c b y, Nat.mul_comm c b, hdet, Nat.add_mul, Nat.one_mul, Nat.mul_left_comm c d x, ← Nat.mul_assoc d a y, Nat.mul_comm d a]
      omega
    have q1 : a * α ≤ x * S := Nat.le_trans (Nat.mul_le_mul_left a (Nat.le_of_lt hα)) (Nat.mul_le_mul_right S (by omega))
    have q2 : d * β ≤ y * S := Nat.le_trans (Nat.mul_le_mul_left d (Nat.le_of_lt hβ)) (Nat.mul_le_mul_right S (by omega))
    have q3 : (a + c) * α < (a + c) * S := Nat.mul_lt_mul_of_pos_left hα (by omega)
    have q4 : (a + c) * S ≤ (x - y) * S := Nat.mul_le_mul_right S (by omega)
    have q5 : (x - y) * S + y * S = x * S := by rw [← Nat.add_mul]; congr 1; omega
    have e1 := eB b
    have e2 := eA a
    have e3 := eA c
    have e4 := eB d
    rw [p1, Nat.add_mul] at e1
    rw [p2, Nat.add_mul] at e3
    rw [Nat.add_mul] at q3 q4
    rw [Nat.add_mul] at q3
    refine ⟨b * B - a * A, c * A - d * B, ⟨by omega, by omega⟩, by omega, ?_⟩
    exact fin _ _ ⟨by omega, by omega⟩
/-! ### The difference of two multiples -/
def DfInv (S P Q : List Nat) (x y n i plus minus : Nat) : Prop := S.length = n ∧ Sm S ∧ pv S i + pv Q i * y + pw i * plus = pv P i * x + pw i * minus
theorem df_start (P Q : List Nat) (x y n : Nat) : DfInv (List.replicate n 0) P Q x y n 0 0 0 := ⟨List.length_replicate, Sm.replicate _, by rw [pv_replicate, pv_zero, pv_zero]; simp⟩
theorem df_step {S P Q : List Nat} {x y n i plus minus t1 t2 v e : Nat} (hi : i < n) (h1 : t1 = plus + lim P i * x) (h2 : t2 = minus + lim Q i * y) (hv : v < 4294967296) (hve : v + t2 % 4294967296 = t1 % 4294967296 + 4294967296 * e) (h : DfInv S P Q x y n i plus minus) :
    DfInv (S.set i v) P Q x y n (i + 1) (t1 / 4294967296) (t2 / 4294967296 + e) := by
  obtain ⟨a1, a2, a3⟩ := h
  refine ⟨by rw [List.length_set, a1], a2.set _ hv, ?_⟩
  rw [pv_set (by omega), pv_succ, pv_succ, pw, Nat.add_mul, Nat.add_mul]
  have k0 : v + t2 + 4294967296 * (t1 / 4294967296) = t1 + 4294967296 * (t2 / 4294967296 + e) := by omega
  have k : pw i * (v + t2 + 4294967296 * (t1 / 4294967296)) = pw i * (t1 + 4294967296 * (t2 / 4294967296 + e)) := by rw [k0]
  rw [Nat.mul_add, Nat.mul_add, Nat.mul_add, h1, h2, Nat.mul_add, Nat.mul_add, ← h1, ← h2] at k
  rw [← Nat.mul_assoc (pw i) 4294967296, ← Nat.mul_assoc (pw i) 4294967296, Nat.mul_comm (pw i) 4294967296] at k
  rw [Nat.mul_assoc (pw i) (lim Q i) y, Nat.mul_assoc (pw i) (lim P i) x]
  omega
theorem df_end {S P Q : List Nat} {x y n plus minus R : Nat} (hP : n ≤ P.length) (hQ : n ≤ Q.length) (hR : R < pw n) (hv : val P * x = val Q * y + R) (h : DfInv S P Q x y n n plus minus) : val S = R := by
  obtain ⟨a1, a2, a3⟩ := h
  rw [pv_len (xs := S) (by omega)] at a3
  have hS := val_lt a2
  rw [a1] at hS
  rw [val_split P n hP, val_split Q n hQ, Nat.add_mul, Nat.add_mul, Nat.mul_assoc, Nat.mul_assoc] at hv
  have k : val S + pw n * (plus + val (P.drop n) * x) = R + pw n * (minus + val (Q.drop n) * y) := by
    rw [Nat.mul_add, Nat.mul_add]
    omega
  have k2 : (val S + pw n * (plus + val (P.drop n) * x)) % pw n = (R + pw n * (minus + val (Q.drop n) * y)) % pw n := by rw [k]
  rwa [Nat.add_mul_mod_self_left, Nat.add_mul_mod_self_left, Nat.mod_eq_of_lt hS, Nat.mod_eq_of_lt hR] at k2
end Go.Proofs.YtnddhohjfjlaiaaGreatDoor

/-
  difference and window.
-/
namespace Go.Proofs.YtnddhohjfjlaiaaGreatDoor
open Go.RowKit
set_option linter.unusedVariables false
set_option linter.unusedSimpArgs false

theorem df_calls (A B : Option Addr) (n m c d : Nat) (P Q : List Nat) (x y R : Nat) (w : World) (h : Rd w A n c P) (h2 : Rd w B m d Q) (hn : n ≤ 1048576) (hm : m ≤ 1048576) (hx : x < 4294967296) (hy : y < 4294967296)
    (hv : val P * x = val Q * y + R) (hR : R < pw (min n m)) :
    Calls Tryz.prog 107 #[.slice A n c, .int .u64 (x : Int), .slice B m d, .int .u64 (y : Int)] w (Gives w (dg R)) := by
  obtain ⟨N, hN⟩ : ∃ N, N = min n m := ⟨_, rfl⟩
  have hmin : min (n : Int) (m : Int) = (N : Int) := by omega
  have hNn : N ≤ n := by omega
  have hNm : N ≤ m := by omega
  rw [← hN] at hR
  have hmk := fun W => run_mk 23 (.inr rfl) N (N : Int) rfl (by omega) W
  have HV := hide (And.intro hv (And.intro hR (And.intro h.len h2.len)))
  clear hv hR hN
  go_enter Tryz.func107, Tryz.ntmps107
  go_wp2
  go_loopw [10, 11, 23] (fun pl mi i wr => ∃ (k p1 m1 : Nat) (S : List Nat), k ≤ N ∧ i = .int .i64 k ∧ pl = .int .u64 p1 ∧ mi = .int .u64 m1 ∧ p1 ≤ 4294967295 ∧ m1 ≤ 4294967295 ∧ Below w.heap.size w wr ∧ Blk wr w.heap.size (arr S) ∧ Hid (DfInv S P Q x y N k p1 m1)) (fun _ _ i _ => N - (intOf i).toNat)
  case atStart => exact ⟨0, 0, 0, _, by omega, rfl, rfl, rfl, by omega, by omega, (Below.refl _ _).alloc (Nat.le_refl _) _, Blk.new _ _, df_start _ _ _ _ _⟩
  case round =>
    obtain ⟨k, p1, m1, S, hk, rfl, rfl, rfl, hp1, hm1, hb, hbl, HI⟩ := hrel
    by_cases hkn : k < N
    · have hbc : wr.cell? ⟨w.heap.size, k, none⟩ = some (.int .u32 (lim S k : Nat)) := blk_cell hbl (by have := HI.out.1; omega)
      have hbf := hbl.frozen k
      have hlP := h.sm.lim k
      have hlQ := h2.sm.lim k
      obtain ⟨t1, ht1⟩ : ∃ t1, t1 = p1 + lim P k * x := ⟨_, rfl⟩
      obtain ⟨t2, ht2⟩ : ∃ t2, t2 = m1 + lim Q k * y := ⟨_, rfl⟩
      have e1 : (p1 : Int) + (lim P k : Int) * (x : Int) = (t1 : Int) := by rw [ht1]; simp
      have e2 : (m1 : Int) + (lim Q k : Int) * (y : Int) = (t2 : Int) := by rw [ht2]; simp
      have b1 := mul_bound hlP hx
      have b2 := mul_bound hlQ hy
      have b10 : (0 : Int) ≤ (lim P k : Int) * (x : Int) := Int.mul_nonneg (by omega) (by omega)
      have b20 : (0 : Int) ≤ (lim Q k : Int) * (y : Int) := Int.mul_nonneg (by omega) (by omega)
      have b11 : (lim P k : Int) * (x : Int) ≤ 18446744065119617025 := by
        have : ((lim P k * x : Nat) : Int) = (lim P k : Int) * (x : Int) := by simp
        omega
      have b21 : (lim Q k : Int) * (y : Int) ≤ 18446744065119617025 := by
        have : ((lim Q k * y : Nat) : Int) = (lim Q k : Int) * (y : Int) := by simp
        omega
      have g1 : t1 ≤ 18446744069414584320 := by omega
      have g2 : t2 ≤ 18446744069414584320 := by omega
      obtain ⟨v, e, hv1, hv2, hv3, hv4⟩ := u32_less (show t1 % 4294967296 < 4294967296 by omega) (show t2 % 4294967296 < 4294967296 by omega)
      have hv5 : IntKind.u32.wrap ((t1 : Int) % 4294967296 - (t2 : Int) % 4294967296) = (v : Int) := by rw [← hv1]; simp
      have hst := df_step hkn ht1 ht2 hv2 hv3 HI.out
      obtain ⟨o1, f1, rfl, -, hc1⟩ := (h.below hb).get (k := k) (by omega)
      obtain ⟨o2, f2, rfl, -, hc2⟩ := (h2.below hb).get (k := k) (by omega)
      by_cases hlt : t1 % 4294967296 < t2 % 4294967296
      · rw [if_pos hlt] at hv4
        subst hv4
        have HS := hide hst
        have hl2 : (t1 : Int) % 4294967296 < (t2 : Int) % 4294967296 := by omega
        have g3 : t2 / 4294967296 + 1 ≤ 4294967295 := by omega
        clear hst ht1 ht2 hv1 hv3 hlt b1 b2
        go_wp2
        go_roundw
        case rel => exact ⟨k + 1, t1 / 4294967296, t2 / 4294967296 + 1, _, by omega, by go_num, by go_num, by go_num, by omega, g3, hb.setCell (Nat.le_refl _) _, blk_set hbl k v, HS⟩
        case measure => simp [intOf]; omega
      · rw [if_neg hlt] at hv4
        subst hv4
        have HS := hide hst
        have hl2 : ¬ (t1 : Int) % 4294967296 < (t2 : Int) % 4294967296 := by omega
        have hv6 : (t1 : Int) % 4294967296 - (t2 : Int) % 4294967296 = (v : Int) := by omega
        clear hst ht1 ht2 hv1 hv3 hlt b1 b2
        go_wp2
        go_roundw
        case rel => exact ⟨k + 1, t1 / 4294967296, t2 / 4294967296, _, by omega, by go_num, by go_num, by go_num, by omega, by omega, hb.setCell (Nat.le_refl _) _, blk_set hbl k v, HS⟩
        case measure => simp [intOf]; omega
    · obtain rfl : N = k := by omega
      have HE := hide (df_end (by have := HV.out.2.2.1; omega) (by have := HV.out.2.2.2; omega) HV.out.2.1 HV.out.1 HI.out)
      have hr := blk_rd0 (c := N) hbl HI.out.2.1 HI.out.1 (by omega)
      go_wp2_with (go_at_call 53; refine (trim_calls _ _ _ _ _ hr (by omega)).mono ?_; rintro e w' ⟨A1, c1, rfl, rfl, hr1, -⟩)
      go_ret
      exact gives_trim HI.out.2.1 HE.out hr1 hb
end Go.Proofs.YtnddhohjfjlaiaaGreatDoor

/-
  window.
-/
namespace Go.Proofs.YtnddhohjfjlaiaaGreatDoor
open Go.RowKit
set_option linter.unusedVariables false
set_option linter.unusedSimpArgs false

theorem win_math {xs : List Nat} {s : Nat} (hs : Sm xs) (h : val xs < 2 ^ (s + 64)) :
    lim xs (s / 32 + 2) * 2 ^ (64 - s % 32) < 18446744073709551616 ∧
    val xs / 2 ^ s = (lim xs (s / 32) + 4294967296 * lim xs (s / 32 + 1)) / 2 ^ (s % 32) + lim xs (s / 32 + 2) * 2 ^ (64 - s % 32) ∧
    (lim xs (s / 32) + 4294967296 * lim xs (s / 32 + 1)) / 2 ^ (s % 32) < 2 ^ (64 - s % 32) := by
  have e1 : 2 ^ (s + 64) = pw (s / 32) * (2 ^ (s % 32) * 18446744073709551616) := by
    rw [Nat.pow_add, pow_split s, Nat.mul_assoc]
  have e2 : 2 ^ (s % 32) * 2 ^ (64 - s % 32) = 18446744073709551616 := by rw [← Nat.pow_add, show s % 32 + (64 - s % 32) = 64 by omega]
  have hp := Nat.two_pow_pos (s % 32)
  have hd : val (xs.drop (s / 32)) < 2 ^ (s % 32) * 18446744073709551616 := by
    rw [val_drop xs hs]
    apply Nat.div_lt_of_lt_mul
    rw [← e1]
    exact h
  have h3 := val_two_more (xs.drop (s / 32))
  rw [lim_drop, lim_drop, List.drop_drop, Nat.add_zero] at h3
  have l0 := hs.lim (s / 32)
  have l1 := hs.lim (s / 32 + 1)
  have h31 : 2 ^ (s % 32) ≤ 2147483648 := by
    have := Nat.pow_le_pow_right (n := 2) (by omega) (show s % 32 ≤ 31 by omega)
    simpa using this
  have h4 : val (xs.drop (s / 32 + 2)) < 2 ^ (s % 32) := by omega
  have h5 : val (xs.drop (s / 32 + 2)) = lim xs (s / 32 + 2) := by
    rcases Nat.lt_or_ge (s / 32 + 2) xs.length with hl | hl
    · have := val_cons_drop hl
      omega
    · rw [List.drop_of_length_le hl, lim_of_ge hl]; rfl
  rw [h5] at h3 h4
  refine ⟨?_, ?_, ?_⟩
  · rw [← e2]
    exact Nat.mul_lt_mul_of_pos_right h4 (Nat.two_pow_pos _)
  · have e3 : val xs / 2 ^ s = val (xs.drop (s / 32)) / 2 ^ (s % 32) := (shr_whole hs s).symm
    rw [e3, h3, ← e2, Nat.mul_assoc, Nat.add_mul_div_left _ _ hp, Nat.mul_comm (2 ^ (64 - s % 32))]
  · apply Nat.div_lt_of_lt_mul
    rw [e2]
    omega
theorem win_calls (A : Option Addr) (n c : Nat) (xs : List Nat) (w : World) (s r : Nat) (h : Rd w A n c xs) (hs : s ≤ 67108864) (hv : val xs < 2 ^ (s + 64)) (hr : val xs / 2 ^ s = r) :
    Calls Tryz.prog 106 #[.slice A n c, .int .i64 (s : Int)] w fun e w' => e = .returned (.int .u64 (r : Int)) ∧ ∃ q, w' = w.drewN q := by
  obtain ⟨m1, m2, m3⟩ := win_math h.sm hv
  rw [hr] at m2
  have l0 := h.sm.lim (s / 32)
  have l1 := h.sm.lim (s / 32 + 1)
  have l2 := h.sm.lim (s / 32 + 2)
  have H0 := hide (show (s : Int) / 32 = ((s / 32 : Nat) : Int) by omega)
  have H1 := hide (show (s : Int) / 32 + 1 = ((s / 32 + 1 : Nat) : Int) by omega)
  have H2 := hide (show (s : Int) / 32 + 2 = ((s / 32 + 2 : Nat) : Int) by omega)
  have hz := or_hi l0 l1
  obtain ⟨z, hzz⟩ : ∃ z, z = lim xs (s / 32) + 4294967296 * lim xs (s / 32 + 1) := ⟨_, rfl⟩
  rw [← hzz] at hz m2 m3
  have M := hide (And.intro m1 (And.intro m2 m3))
  clear hv hr hzz m1 m2 m3
  have hb : ∀ q, Rd (w.drewN q) A n c xs := fun q => h.below (below_drewN (Below.refl _ _) q)
  have HB := hide hb
  clear hb
  go_enter Tryz.func106, Tryz.ntmps106
  go_wp2
  go_quiet (first
    | (go_at_call 100; exact quiet_left (limb_int A n c xs _ _ (s / 32) H0.out (HB.out _)))
    | (go_at_call 100; exact quiet_left (limb_int A n c xs _ _ (s / 32 + 1) H1.out (HB.out _)))
    | (go_at_call 100; exact quiet_left (limb_int A n c xs _ _ (s / 32 + 2) H2.out (HB.out _))))
  go_wp2
  go_ret
  refine ⟨?_, _, rfl⟩
  show Ending.returned (.int .u64 (bits .or .u64 ((z : Int) / 2 ^ (s % 32)) (IntKind.u64.wrap ((lim xs (s / 32 + 2) : Int) * 2 ^ (64 - s % 32))))) = _
  refine ret_int ?_
  have k1 := M.out.1
  have k2 := M.out.2.1
  have k3 := M.out.2.2
  have e1 : (z : Int) / 2 ^ (s % 32) = ((z / 2 ^ (s % 32) : Nat) : Int) := by simp
  have e3 : ((lim xs (s / 32 + 2) * 2 ^ (64 - s % 32) : Nat) : Int) = (lim xs (s / 32 + 2) : Int) * 2 ^ (64 - s % 32) := by simp
  have e2 : IntKind.u64.wrap ((lim xs (s / 32 + 2) : Int) * 2 ^ (64 - s % 32)) = ((lim xs (s / 32 + 2) * 2 ^ (64 - s % 32) : Nat) : Int) := by
    rw [IntWalk.u64_in _ (by omega), e3]
  have hz2 : z / 2 ^ (s % 32) < 18446744073709551616 := by
    have h6 : 2 ^ (64 - s % 32) ≤ 2 ^ 64 := Nat.pow_le_pow_right (by omega) (by omega)
    have h7 : (2 : Nat) ^ 64 = 18446744073709551616 := by decide
    omega
  rw [e1, e2, u64_or_nat _ _ hz2 k1, k2, Nat.mul_comm (lim xs (s / 32 + 2)), or_add k3]
end Go.Proofs.YtnddhohjfjlaiaaGreatDoor

/-
  leadingSteps.
-/
namespace Go.Proofs.YtnddhohjfjlaiaaGreatDoor
open Go.RowKit
set_option linter.unusedVariables false
set_option linter.unusedSimpArgs false

/-- A block that holds cofactors. -/
def Blk5 (w : World) (g : Nat) (a b c d : Nat) (odd : Bool) : Prop := w.heap[g]? = some (.cells #[.int .u64 (a : Int), .int .u64 (b : Int), .int .u64 (c : Int), .int .u64 (d : Int), .bool odd] 108 (0, 0))
section
variable {w : World} {g a b c d : Nat} {odd : Bool}
theorem Blk5.cells (h : Blk5 w g a b c d odd) : w.cell? ⟨g, 0, none⟩ = some (.int .u64 (a : Int)) ∧ w.cell? ⟨g, 1, none⟩ = some (.int .u64 (b : Int)) ∧ w.cell? ⟨g, 2, none⟩ = some (.int .u64 (c : Int)) ∧ w.cell? ⟨g, 3, none⟩ = some (.int .u64 (d : Int)) ∧ w.cell? ⟨g, 4, none⟩ = some (.bool odd) := by
  unfold Blk5 at h
  exact ⟨(cell_of_row w g 0 _ 108 (0, 0) h).trans rfl, (cell_of_row w g 1 _ 108 (0, 0) h).trans rfl, (cell_of_row w g 2 _ 108 (0, 0) h).trans rfl, (cell_of_row w g 3 _ 108 (0, 0) h).trans rfl, (cell_of_row w g 4 _ 108 (0, 0) h).trans rfl⟩
theorem Blk5.lt (h : Blk5 w g a b c d odd) : g < w.heap.size := by
  rcases Nat.lt_or_ge g w.heap.size with hlt | hge
  · exact hlt
  · unfold Blk5 at h; rw [Array.getElem?_eq_none hge] at h; cases h
theorem Blk5.far (h : Blk5 w g a b c d odd) {p : Addr} (hp : g ≠ p.block) (u : Value) : Blk5 (w.setCell p u) g a b c d odd := (Below.heap_setCell w p u g hp).trans h
theorem Blk5.alloc (h : Blk5 w g a b c d odd) (o : Obj) : Blk5 (w.alloc o) g a b c d odd := (Below.heap_alloc w o g h.lt).trans h
theorem Blk5.below {B : Nat} {w' : World} (h : Blk5 w g a b c d odd) (hb : Below B w w') (hg : g < B) : Blk5 w' g a b c d odd := (hb.block g hg).trans h
theorem Blk5.drewN (h : Blk5 w g a b c d odd) (n : Nat) : Blk5 (w.drewN n) g a b c d odd := h
theorem Blk5.put (h : Blk5 w g a b c d odd) {a1 b1 c1 d1 : Nat} {odd1 : Bool} {va vb vc vd : Int} (ha : va = a1) (hb : vb = b1) (hc : vc = c1) (hd : vd = d1) :
    Blk5 (((((w.setCell ⟨g, 0, none⟩ (.int .u64 va)).setCell ⟨g, 1, none⟩ (.int .u64 vb)).setCell ⟨g, 2, none⟩ (.int .u64 vc)).setCell ⟨g, 3, none⟩ (.int .u64 vd)).setCell ⟨g, 4, none⟩ (.bool odd1)) g a1 b1 c1 d1 odd1 := by
  subst ha hb hc hd
  unfold Blk5 at h ⊢
  simp [World.setCell, Array.getElem?_modify, h]
theorem blk5_new (hg : w.heap.size = g) : Blk5 (w.alloc (.cells #[.int .u64 (a : Int), .int .u64 (b : Int), .int .u64 (c : Int), .int .u64 (d : Int), .bool odd] 108)) g a b c d odd := hg ▸ heap_alloc_new w _
theorem Blk5.free (h : Blk5 w g a b c d odd) (i : Nat) : w.frozen? ⟨g, i, none⟩ = false := by
  unfold Blk5 at h
  simp [World.frozen?, h]
end
def Acc (x0 y0 a b c d : Nat) (odd : Bool) : Prop := b = 0 ∨ ∃ x y, Cof x0 y0 a b c d odd x y ∧ d ≤ y ∧ b + d ≤ x - y ∧ 1 ≤ b ∧ a ≤ 4294967295 ∧ b ≤ 4294967295 ∧ c ≤ 4294967295 ∧ d ≤ 4294967295
def LsRel (x0 y0 : Nat) (w : World) (xv yv : Value) (wr : World) : Prop :=
  ∃ (x y a b c d a' b' c' d' : Nat) (odd odd' : Bool), xv = .int .u64 x ∧ yv = .int .u64 y ∧ Below w.heap.size w wr ∧ Blk5 wr w.heap.size 0 0 0 0 false ∧ Blk5 wr (w.heap.size + 1) a b c d odd ∧ Blk5 wr (w.heap.size + 1 + 1) a' b' c' d' odd' ∧
    Cof x0 y0 a b c d odd x y ∧ Acc x0 y0 a' b' c' d' odd'
def LsOut (x0 y0 : Nat) (w : World) (e : Ending) (w' : World) : Prop := ∃ (a b c d : Nat) (odd : Bool), e = .returned (.agg #[.int .u64 (a : Int), .int .u64 (b : Int), .int .u64 (c : Int), .int .u64 (d : Int), .bool odd]) ∧ Acc x0 y0 a b c d odd ∧ Below w.heap.size w w'
set_option maxHeartbeats 1000000 in
theorem ls_calls (x0 y0 : Nat) (w : World) (hx : x0 ≤ 18446744073709551615) (hyx : y0 ≤ x0) :
    Calls Tryz.prog 105 #[.int .u64 (x0 : Int), .int .u64 (y0 : Int)] w (LsOut x0 y0 w) := by
  go_enter Tryz.func105, Tryz.ntmps105
  go_wp2
  go_loopw [0, 1] (fun xv yv wr => LsRel x0 y0 w xv yv wr) (fun _ yv _ => (intOf yv).toNat)
  case atStart =>
    refine ⟨x0, y0, 1, 0, 0, 1, 1, 0, 0, 1, false, false, rfl, rfl, (((Below.refl _ _).alloc (Nat.le_refl _) _).alloc (by simp) _).alloc (by simp; omega) _, ?_, ?_, ?_, cof_start hyx, .inl rfl⟩
    · exact ((blk5_new (a := 0) (b := 0) (c := 0) (d := 0) rfl).alloc _).alloc _
    · exact (blk5_new (a := 1) (b := 0) (c := 0) (d := 1) (by simp)).alloc _
    · exact blk5_new (a := 1) (b := 0) (c := 0) (d := 1) (by simp)
  case round =>
    obtain ⟨x, y, a, b, c, d, a', b', c', d', odd, odd', rfl, rfl, hb, hR, hN, hC, hcof, hacc⟩ := hrel
    obtain ⟨n0, n1, n2, n3, n4⟩ := hN.cells
    obtain ⟨z0, z1, z2, z3, z4⟩ := hC.cells
    have hyx1 := hcof.yx
    have hd1 := hcof.d1
    have hxx : x ≤ 18446744073709551615 := by
      have e0 := hcof.inv0
      have e1 := Nat.le_mul_of_pos_left x hd1
      have e2 := Nat.zero_le (b * y)
      omega
    by_cases c1 : d ≤ y
    · obtain ⟨k1, k2, k3⟩ := cof_word hcof hx (by omega)
      have hd32 := k3 c1
      have hbd := hcof.bd
      have hcd := hcof.cd
      by_cases c2 : b + d ≤ x - y
      · have hy0 : 0 < y := by omega
        have hnew := cof_step hcof hy0
        have hw := cof_word hnew hx hy0
        obtain ⟨q, hq⟩ : ∃ q, q = x / y := ⟨_, rfl⟩
        have hq1 : (x : Int) / (y : Int) = (q : Int) := by rw [hq]; simp
        obtain ⟨r, hr⟩ : ∃ r, r = x % y := ⟨_, rfl⟩
        have hr1 : (x : Int) % (y : Int) = (r : Int) := by rw [hr]; simp
        have hry : r < y := by rw [hr]; exact Nat.mod_lt _ hy0
        rw [← hq, ← hr] at hnew
        rw [← hq] at hw
        obtain ⟨cc, hcc⟩ : ∃ cc, cc = a + q * c := ⟨_, rfl⟩
        obtain ⟨dd, hdd⟩ : ∃ dd, dd = b + q * d := ⟨_, rfl⟩
        rw [← hcc, ← hdd] at hnew
        rw [← hdd] at hw
        have f1 : (a : Int) + (q : Int) * (c : Int) = (cc : Int) := by rw [hcc]; simp
        have f2 : (b : Int) + (q : Int) * (d : Int) = (dd : Int) := by rw [hdd]; simp
        have f3 : (0 : Int) ≤ (q : Int) * (c : Int) := Int.mul_nonneg (by omega) (by omega)
        have f4 : (0 : Int) ≤ (q : Int) * (d : Int) := Int.mul_nonneg (by omega) (by omega)
        have f5 : dd ≤ 18446744073709551615 := hw.1
        have f6 : (q : Int) * (d : Int) ≤ 18446744073709551615 := by omega
        have f8 : cc ≤ 18446744073709551615 := by have := hnew.cd; omega
        have f7 : (q : Int) * (c : Int) ≤ 18446744073709551615 := by omega
        have hy1 : ((y : Int) == 0) = false := by simp; omega
        have g1 : (b : Int) + (d : Int) ≤ (x : Int) - (y : Int) := by omega
        have HN := hide hnew
        have HR1 := hide hr1
        have HCF := hide hcof
        have HAC := hide hacc
        have fN := fun i => hN.free i
        have fC := fun i => hC.free i
        have fN0 := fN 0
        have fN1 := fN 1
        have fN2 := fN 2
        have fN3 := fN 3
        have fN4 := fN 4
        have fC0 := fC 0
        have fC1 := fC 1
        have fC2 := fC 2
        have fC3 := fC 3
        have fC4 := fC 4
        clear hnew hw hq hr hcc hdd hcof hacc fN fC k3
        go_wp2
        go_quiet (fail)
        go_wp2
        have f9 : (q : Int) ≤ (q : Int) * (d : Int) := by
          have h1 := Nat.le_mul_of_pos_right q hd1
          have h2 : ((q * d : Nat) : Int) = (q : Int) * (d : Int) := by simp
          omega
        have e1 : IntKind.u64.wrap (q : Int) = q := IntWalk.u64_in _ (by omega)
        have e2 : IntKind.u64.wrap ((a : Int) + IntKind.u64.wrap (IntKind.u64.wrap (q : Int) * (c : Int))) = (cc : Int) := by
          rw [e1, IntWalk.u64_in ((q : Int) * c) (by omega), f1, IntWalk.u64_in _ (by omega)]
        have e3 : IntKind.u64.wrap ((b : Int) + IntKind.u64.wrap (IntKind.u64.wrap (q : Int) * (d : Int))) = (dd : Int) := by
          rw [e1, IntWalk.u64_in ((q : Int) * d) (by omega), f2, IntWalk.u64_in _ (by omega)]
        refine ⟨⟨y, r, c, d, cc, dd, a, b, c, d, !odd, odd, rfl, by rw [HR1.out], ?_, ?_, ?_, ?_, HN.out, ?_⟩, ?_⟩
        · exact ((((((((((below_drewN hb nq).setCell (by simp; omega) _).setCell (by simp; omega) _).setCell (by simp; omega) _).setCell (by simp; omega) _).setCell (by simp; omega) _).setCell (by simp) _).setCell (by simp) _).setCell (by simp) _).setCell (by simp) _).setCell (by simp) _
        · exact ((((((((((hR.drewN nq).far (by simp; omega) _).far (by simp; omega) _).far (by simp; omega) _).far (by simp; omega) _).far (by simp; omega) _).far (by simp) _).far (by simp) _).far (by simp) _).far (by simp) _).far (by simp) _
        · exact ((((((hN.drewN nq).far (by simp) _).far (by simp) _).far (by simp) _).far (by simp) _).far (by simp) _).put rfl rfl e2 e3
        · exact (((((((hC.drewN nq).put rfl rfl rfl rfl).far (by simp) _).far (by simp) _).far (by simp) _).far (by simp) _).far (by simp) _)
        · rcases Nat.eq_zero_or_pos b with hb0 | hb0
          · exact .inl hb0
          · exact .inr ⟨x, y, HCF.out, c1, c2, hb0, by omega, by omega, by omega, by omega⟩
        · rw [HR1.out]; simp [intOf]; omega
      · have g1 : ¬ (b : Int) + (d : Int) ≤ (x : Int) - (y : Int) := by omega
        obtain ⟨r0, r1, r2, r3, r4⟩ := hR.cells
        have HAC := hide hacc
        have fR0 := hR.free 0
        have fR1 := hR.free 1
        have fR2 := hR.free 2
        have fR3 := hR.free 3
        have fR4 := hR.free 4
        have HR := hide hR
        clear hcof hacc
        go_wp2
        have hb5 := ((((hb.setCell (p := ⟨w.heap.size, 0, none⟩) (by simp) (.int .u64 (a' : Int))).setCell (p := ⟨w.heap.size, 1, none⟩) (by simp) (.int .u64 (b' : Int))).setCell (p := ⟨w.heap.size, 2, none⟩) (by simp) (.int .u64 (c' : Int))).setCell (p := ⟨w.heap.size, 3, none⟩) (by simp) (.int .u64 (d' : Int))).setCell (p := ⟨w.heap.size, 4, none⟩) (by simp) (.bool odd')
        have h5 := HR.out.put (a1 := a') (b1 := b') (c1 := c') (d1 := d') (odd1 := odd') rfl rfl rfl rfl
        generalize (((((wr.setCell ⟨w.heap.size, 0, none⟩ (.int .u64 (a' : Int))).setCell ⟨w.heap.size, 1, none⟩ (.int .u64 (b' : Int))).setCell ⟨w.heap.size, 2, none⟩ (.int .u64 (c' : Int))).setCell ⟨w.heap.size, 3, none⟩ (.int .u64 (d' : Int))).setCell ⟨w.heap.size, 4, none⟩ (.bool odd')) = W5 at hb5 h5 ⊢
        obtain ⟨y0', y1', y2', y3', y4'⟩ := h5.cells
        refine bodyPost_ret (v := .agg #[.int .u64 (a' : Int), .int .u64 (b' : Int), .int .u64 (c' : Int), .int .u64 (d' : Int), .bool odd']) (by simp [results, Tryz.results105, go_sem, y0', y1', y2', y3', y4']) rfl ⟨a', b', c', d', odd', rfl, HAC.out, ?_⟩
        exact hb5
    · obtain ⟨r0, r1, r2, r3, r4⟩ := hR.cells
      have HAC := hide hacc
      have fR0 := hR.free 0
      have fR1 := hR.free 1
      have fR2 := hR.free 2
      have fR3 := hR.free 3
      have fR4 := hR.free 4
      have HR := hide hR
      clear hcof hacc
      go_wp2
      have hb5 := ((((hb.setCell (p := ⟨w.heap.size, 0, none⟩) (by simp) (.int .u64 (a' : Int))).setCell (p := ⟨w.heap.size, 1, none⟩) (by simp) (.int .u64 (b' : Int))).setCell (p := ⟨w.heap.size, 2, none⟩) (by simp) (.int .u64 (c' : Int))).setCell (p := ⟨w.heap.size, 3, none⟩) (by simp) (.int .u64 (d' : Int))).setCell (p := ⟨w.heap.size, 4, none⟩) (by simp) (.bool odd')
      have h5 := HR.out.put (a1 := a') (b1 := b') (c1 := c') (d1 := d') (odd1 := odd') rfl rfl rfl rfl
      generalize (((((wr.setCell ⟨w.heap.size, 0, none⟩ (.int .u64 (a' : Int))).setCell ⟨w.heap.size, 1, none⟩ (.int .u64 (b' : Int))).setCell ⟨w.heap.size, 2, none⟩ (.int .u64 (c' : Int))).setCell ⟨w.heap.size, 3, none⟩ (.int .u64 (d' : Int))).setCell ⟨w.heap.size, 4, none⟩ (.bool odd')) = W5 at hb5 h5 ⊢
      obtain ⟨y0', y1', y2', y3', y4'⟩ := h5.cells
      refine bodyPost_ret (v := .agg #[.int .u64 (a' : Int), .int .u64 (b' : Int), .int .u64 (c' : Int), .int .u64 (d' : Int), .bool odd']) (by simp [results, Tryz.results105, go_sem, y0', y1', y2', y3', y4']) rfl ⟨a', b', c', d', odd', rfl, HAC.out, ?_⟩
      exact hb5
end Go.Proofs.YtnddhohjfjlaiaaGreatDoor

/-
  reduce.
-/
namespace Go.Proofs.YtnddhohjfjlaiaaGreatDoor
open Go.RowKit
set_option linter.unusedVariables false
set_option linter.unusedSimpArgs false

theorem nb_dg {X L : Nat} (hL : (dg X).length = L + 1) : ∃ r, nb (dg X) = r ∧ 32 * L + 1 ≤ r ∧ r ≤ 32 * L + 32 ∧ X < 2 ^ r := by
  have ht := tlen_dg X
  rw [hL] at ht
  have htop := tlen_top (xs := dg X) (by omega)
  have hsm := (sm_dg X).lim L
  refine ⟨_, rfl, ?_⟩
  unfold nb
  rw [if_neg (by omega), ht]
  rw [ht] at htop
  rw [show L + 1 - 1 = L by omega] at htop ⊢
  obtain ⟨h1, h2, h3⟩ := Lib.bitLenAux_bounds 64 (lim (dg X) L) (by omega) htop
  have hle : Lib.bitLen (lim (dg X) L) ≤ 32 := Lib.bitLen_le _ 32 (by omega) (by omega)
  have h1' : 1 ≤ Lib.bitLen (lim (dg X) L) := h1
  have h3' : lim (dg X) L < 2 ^ Lib.bitLen (lim (dg X) L) := h3
  clear h1 h2 h3
  generalize Lib.bitLen (lim (dg X) L) = b at *
  refine ⟨by omega, by omega, ?_⟩
  have e := pv_succ (dg X) L
  rw [pv_len (k := L + 1) (by omega), val_dg] at e
  have hp := pv_lt (sm_dg X) L
  have hm : pw L * (lim (dg X) L + 1) ≤ pw L * 2 ^ b := Nat.mul_le_mul_left _ (by omega)
  rw [Nat.pow_add, ← pw_pow]
  rw [Nat.mul_add, Nat.mul_one] at hm
  omega

/-- What reduce gives. -/
def RdOut (w : World) (X Y : Nat) (e : Ending) (w' : World) : Prop := ∃ X' Y', Gives2 w (dg X') (dg Y') e w' ∧ Y' ≤ X' ∧ X' ≤ X ∧ Y' < Y ∧ Nat.gcd X' Y' = Nat.gcd X Y
section
variable (A B : Option Addr) (n m c d : Nat) (X Y : Nat) (w : World) (h : Rd w A n c (dg X)) (h2 : Rd w B m d (dg Y)) (hn : n ≤ 65536) (hle : Y ≤ X) (h3 : 3 ≤ m)
include h h2 hn hle h3
set_option maxHeartbeats 1600000 in
theorem red_calls : Calls Tryz.prog 90 #[.slice A n c, .slice B m d] w (RdOut w X Y) := by
  have hnl := h.len
  have hml := h2.len
  have hmn : m ≤ n := by
    have := tlen_mono (sm_dg Y) (sm_dg X) (by rw [val_dg, val_dg]; exact hle)
    rw [tlen_dg, tlen_dg] at this
    omega
  obtain ⟨r, hr, hr1, hr2, hrX⟩ := nb_dg (X := X) (L := n - 1) (by omega)
  obtain ⟨s, rfl⟩ : ∃ s, r = s + 64 := ⟨r - 64, by omega⟩
  have hs : s ≤ 67108864 := by omega
  have hrY : Y < 2 ^ (s + 64) := Nat.lt_of_le_of_lt hle hrX
  obtain ⟨x0, hx0⟩ : ∃ x0, x0 = X / 2 ^ s := ⟨_, rfl⟩
  obtain ⟨y0, hy0⟩ : ∃ y0, y0 = Y / 2 ^ s := ⟨_, rfl⟩
  have hyx : y0 ≤ x0 := by rw [hx0, hy0]; exact Nat.div_le_div_right hle
  have hx64 : x0 ≤ 18446744073709551615 := by
    have : x0 < 2 ^ 64 := by
      rw [hx0]
      apply Nat.div_lt_of_lt_mul
      rwa [Nat.pow_add] at hrX
    have e : (2 : Nat) ^ 64 = 18446744073709551616 := by decide
    omega
  have hY0 : 0 < Y := by
    rcases Nat.eq_zero_or_pos Y with h0 | h0
    · subst h0; rw [dg_zero] at hml; simp at hml; omega
    · exact h0
  have hYm : Y < pw m := lt_of_len (Nat.le_of_eq hml)
  have HX := hide (show X = x0 * 2 ^ s + X % 2 ^ s by rw [hx0, Nat.mul_comm]; exact (Nat.div_add_mod _ _).symm)
  have HY := hide (show Y = y0 * 2 ^ s + Y % 2 ^ s by rw [hy0, Nat.mul_comm]; exact (Nat.div_add_mod _ _).symm)
  have HXm := hide (Nat.mod_lt X (Nat.two_pow_pos s))
  have HYm := hide (Nat.mod_lt Y (Nat.two_pow_pos s))
  have HBI := hide (bits_calls A n c (dg X) w _ hr h (by omega))
  have HW1 := hide (fun (W : World) (v : Int) (hv : v = (s : Int)) (k : Rd W A n c (dg X)) => (by
    subst hv
    exact win_calls A n c (dg X) W s x0 k hs (by rw [val_dg]; exact hrX) (by rw [val_dg, hx0]) : Calls Tryz.prog 106 #[.slice A n c, .int .i64 v] W fun e w' => e = .returned (.int .u64 (x0 : Int)) ∧ ∃ q, w' = W.drewN q))
  have HW2 := hide (fun (W : World) (v : Int) (hv : v = (s : Int)) (k : Rd W B m d (dg Y)) => (by
    subst hv
    exact win_calls B m d (dg Y) W s y0 k hs (by rw [val_dg]; exact hrY) (by rw [val_dg, hy0]) : Calls Tryz.prog 106 #[.slice B m d, .int .i64 v] W fun e w' => e = .returned (.int .u64 (y0 : Int)) ∧ ∃ q, w' = W.drewN q))
  have HDM := hide (fun (W : World) (k1 : Rd W A n c (dg X)) (k2 : Rd W B m d (dg Y)) => (by
    have := divmod_calls A B n m c d _ _ W k1 k2 hn (by omega) (by rw [val_dg]; exact hY0)
    rwa [val_dg, val_dg] at this : Calls Tryz.prog 79 #[.slice A n c, .slice B m d] W (Gives3 W (dg (X / Y)) (dg (X % Y)) 0)))
  have HLE := hide (And.intro hle (And.intro hY0 hYm))
  clear hr hr1 hr2 hrX hrY hx0 hy0 hle hY0 hYm hnl hml
  go_enter Tryz.func90, Tryz.ntmps90
  go_wp2_with fail
  refine (unhide HBI).mono ?_
  rintro e w' ⟨rfl, rfl⟩
  go_wp2_with fail
  refine (unhide HW1 _ _ (by simp) h).mono ?_
  rintro e w' ⟨rfl, q1, rfl⟩
  go_wp2_with fail
  refine (unhide HW2 _ _ (by omega) (h2.below (below_drewN (Below.refl _ _) q1))).mono ?_
  rintro e w' ⟨rfl, q2, rfl⟩
  go_wp2_with fail
  refine (ls_calls x0 y0 _ hx64 hyx).mono ?_
  rintro e w1 ⟨a, b, c1, d1, odd, rfl, hacc, hb1⟩
  have hb2 : Below w.heap.size w w1 := below_then (below_drewN (Below.refl _ _) _) (Nat.le_refl _) hb1
  clear hb1
  rcases Nat.eq_zero_or_pos b with hb0 | hb0
  · subst hb0
    clear hacc
    go_wp2_with fail
    refine (unhide HDM _ ((h.below hb2).below ((Below.refl _ _).alloc (Nat.le_refl _) _)) ((h2.below hb2).below ((Below.refl _ _).alloc (Nat.le_refl _) _))).mono ?_
    rintro e w3 ⟨A3, c3, A4, c4, rfl, hr3, hr4, hb4⟩
    go_wp2
    go_ret2
    exact ⟨Y, X % Y, ⟨B, d, A4, c4, by rw [h2.len]; rfl, by rw [h2.len]; exact ((h2.below hb2).below ((Below.refl _ _).alloc (Nat.le_refl _) _)).below hb4, hr4, below_then (hb2.alloc hb2.size _) (Nat.le_refl _) hb4⟩, Nat.le_of_lt (Nat.mod_lt _ HLE.out.2.1), HLE.out.1, Nat.mod_lt _ HLE.out.2.1, by rw [Nat.gcd_comm Y, ← Nat.gcd_rec, Nat.gcd_comm]⟩
  · have hcof := hacc.resolve_left (by omega)
    clear hacc
    obtain ⟨x, y, hcof, hdy, hbd, hb1, ha32, hb32, hc32, hd32⟩ := hcof
    have hb0 : ((b : Int) == 0) = false := by simp; omega
    have HW := hide (cof_whole hcof hb1 HX.out HY.out HXm.out HYm.out hdy hbd)
    clear hcof hdy hbd
    obtain ⟨A', B', hw1, hw2, hw3, hw4⟩ := HW.out
    clear HW
    cases odd
    · simp only [Bool.false_eq_true, if_false] at hw1
      have HD1 := hide (fun (W : World) (k1 : Rd W A n c (dg X)) (k2 : Rd W B m d (dg Y)) => (df_calls A B n m c d _ _ a b A' W k1 k2 (by omega) (by omega) (by omega) (by omega) (by rw [val_dg, val_dg, Nat.mul_comm X, Nat.mul_comm Y]; exact hw1.1) (by rw [Nat.min_eq_right hmn]; exact Nat.lt_of_le_of_lt hw3 HLE.out.2.2)))
      have HD2 := hide (fun (W : World) (k1 : Rd W A n c (dg X)) (k2 : Rd W B m d (dg Y)) => (df_calls B A m n d c _ _ d1 c1 B' W k2 k1 (by omega) (by omega) (by omega) (by omega) (by rw [val_dg, val_dg, Nat.mul_comm X, Nat.mul_comm Y]; exact hw1.2) (by rw [Nat.min_eq_left hmn]; exact Nat.lt_of_lt_of_le hw2 (Nat.le_of_lt (Nat.lt_of_le_of_lt hw3 HLE.out.2.2)))))
      clear hw1
      have hk := blk5_new (w := w1) (a := a) (b := b) (c := c1) (d := d1) (odd := false) rfl
      have hb3 := hb2.alloc hb2.size (.cells #[.int .u64 (a : Int), .int .u64 (b : Int), .int .u64 (c1 : Int), .int .u64 (d1 : Int), .bool false] 108)
      have hg : w1.heap.size < (w1.alloc (.cells #[.int .u64 (a : Int), .int .u64 (b : Int), .int .u64 (c1 : Int), .int .u64 (d1 : Int), .bool false] 108)).heap.size := by simp
      have hgw := hb2.size
      go_wp2_with fail
      generalize w1.alloc (.cells #[.int .u64 (a : Int), .int .u64 (b : Int), .int .u64 (c1 : Int), .int .u64 (d1 : Int), .bool false] 108) = W0 at hk hb3 hg ⊢
      clear hb2
      generalize w1.heap.size = G at hk hb3 hg hgw ⊢
      have hS := hk.cells
      have hb5 : Below w.heap.size w W0.drew := below_drewN hb3 1
      have hrA := h.below hb5
      have hrB := h2.below hb5
      have hk' : Blk5 W0.drew G a b c1 d1 false := hk
      have hg' : G < W0.drew.heap.size := hg
      go_region_held3 (fun w' => w'.cell? ⟨G, 0, none⟩ = some (.int .u64 (a : Int)) ∧ w'.cell? ⟨G, 1, none⟩ = some (.int .u64 (b : Int)) ∧ w'.cell? ⟨G, 2, none⟩ = some (.int .u64 (c1 : Int)) ∧ w'.cell? ⟨G, 3, none⟩ = some (.int .u64 (d1 : Int)))
        (first
          | exact ⟨hS5.1, hS5.2.1, hS5.2.2.1, hS5.2.2.2.1⟩
          | exact ⟨hS3.1, hS3.2.1, hS3.2.2.1, hS3.2.2.2.1⟩
          | exact ⟨hS.1, hS.2.1, hS.2.2.1, hS.2.2.2.1⟩
          | fail)
        (first
          | (go_at_call 107; (with_reducible refine (unhide HD1 _ hrA hrB).mono ?_); rintro e w3 ⟨A3, c3, rfl, hr3, hb4⟩; have hk3 := hk'.below hb4 hg'; have hS3 := hk3.cells; have hg3 := hk3.lt; have hrA3 := hrA.below hb4; have hrB3 := hrB.below hb4; have hb6 := below_then hb5 (Nat.le_refl _) hb4)
          | (go_at_call 107; (with_reducible refine (unhide HD2 _ hrA3 hrB3).mono ?_); rintro e w4 ⟨A4, c4, rfl, hr4, hb7⟩; have hS5 := (hk3.below hb7 hg3).cells)
          | fail)
      go_wp2
      go_ret2
      exact ⟨A', B', ⟨A3, c3, A4, c4, rfl, hr3.below hb7, hr4, below_then hb6 (Nat.le_refl _) hb7⟩, Nat.le_of_lt hw2, Nat.le_trans hw3 HLE.out.1, Nat.lt_of_lt_of_le hw2 hw3, hw4⟩
    · simp only [if_true] at hw1
      have HD1 := hide (fun (W : World) (k1 : Rd W A n c (dg X)) (k2 : Rd W B m d (dg Y)) => (df_calls B A m n d c _ _ b a A' W k2 k1 (by omega) (by omega) (by omega) (by omega) (by rw [val_dg, val_dg, Nat.mul_comm X, Nat.mul_comm Y]; exact hw1.1) (by rw [Nat.min_eq_left hmn]; exact Nat.lt_of_le_of_lt hw3 HLE.out.2.2)))
      have HD2 := hide (fun (W : World) (k1 : Rd W A n c (dg X)) (k2 : Rd W B m d (dg Y)) => (df_calls A B n m c d _ _ c1 d1 B' W k1 k2 (by omega) (by omega) (by omega) (by omega) (by rw [val_dg, val_dg, Nat.mul_comm X, Nat.mul_comm Y]; exact hw1.2) (by rw [Nat.min_eq_right hmn]; exact Nat.lt_of_lt_of_le hw2 (Nat.le_of_lt (Nat.lt_of_le_of_lt hw3 HLE.out.2.2)))))
      clear hw1
      have hk := blk5_new (w := w1) (a := a) (b := b) (c := c1) (d := d1) (odd := true) rfl
      have hb3 := hb2.alloc hb2.size (.cells #[.int .u64 (a : Int), .int .u64 (b : Int), .int .u64 (c1 : Int), .int .u64 (d1 : Int), .bool true] 108)
      have hg : w1.heap.size < (w1.alloc (.cells #[.int .u64 (a : Int), .int .u64 (b : Int), .int .u64 (c1 : Int), .int .u64 (d1 : Int), .bool true] 108)).heap.size := by simp
      have hgw := hb2.size
      go_wp2_with fail
      generalize w1.alloc (.cells #[.int .u64 (a : Int), .int .u64 (b : Int), .int .u64 (c1 : Int), .int .u64 (d1 : Int), .bool true] 108) = W0 at hk hb3 hg ⊢
      clear hb2
      generalize w1.heap.size = G at hk hb3 hg hgw ⊢
      have hS := hk.cells
      have hb5 : Below w.heap.size w W0.drew := below_drewN hb3 1
      have hrA := h.below hb5
      have hrB := h2.below hb5
      have hk' : Blk5 W0.drew G a b c1 d1 true := hk
      have hg' : G < W0.drew.heap.size := hg
      go_region_held3 (fun w' => w'.cell? ⟨G, 0, none⟩ = some (.int .u64 (a : Int)) ∧ w'.cell? ⟨G, 1, none⟩ = some (.int .u64 (b : Int)) ∧ w'.cell? ⟨G, 2, none⟩ = some (.int .u64 (c1 : Int)) ∧ w'.cell? ⟨G, 3, none⟩ = some (.int .u64 (d1 : Int)))
        (first
          | exact ⟨hS5.1, hS5.2.1, hS5.2.2.1, hS5.2.2.2.1⟩
          | exact ⟨hS3.1, hS3.2.1, hS3.2.2.1, hS3.2.2.2.1⟩
          | exact ⟨hS.1, hS.2.1, hS.2.2.1, hS.2.2.2.1⟩
          | fail)
        (first
          | (go_at_call 107; (with_reducible refine (unhide HD1 _ hrA hrB).mono ?_); rintro e w3 ⟨A3, c3, rfl, hr3, hb4⟩; have hk3 := hk'.below hb4 hg'; have hS3 := hk3.cells; have hg3 := hk3.lt; have hrA3 := hrA.below hb4; have hrB3 := hrB.below hb4; have hb6 := below_then hb5 (Nat.le_refl _) hb4)
          | (go_at_call 107; (with_reducible refine (unhide HD2 _ hrA3 hrB3).mono ?_); rintro e w4 ⟨A4, c4, rfl, hr4, hb7⟩; have hS5 := (hk3.below hb7 hg3).cells)
          | fail)
      go_wp2
      go_ret2
      exact ⟨A', B', ⟨A3, c3, A4, c4, rfl, hr3.below hb7, hr4, below_then hb6 (Nat.le_refl _) hb7⟩, Nat.le_of_lt hw2, Nat.le_trans hw3 HLE.out.1, Nat.lt_of_lt_of_le hw2 hw3, hw4⟩
end
end Go.Proofs.YtnddhohjfjlaiaaGreatDoor

/-
  Gcd.
-/
namespace Go.Proofs.YtnddhohjfjlaiaaGreatDoor
open Go.RowKit
set_option linter.unusedVariables false
set_option linter.unusedSimpArgs false

theorem Rd.same {w : World} {A : Option Addr} {n c : Nat} {xs ys : List Nat} (h : Rd w A n c xs) (h2 : Rd w A n c ys) : val xs = val ys := by
  refine val_eq_of fun j => ?_
  rcases Nat.lt_or_ge j n with hj | hj
  · obtain ⟨b, off, e, -, hc⟩ := h.get hj
    obtain ⟨b2, off2, e2, -, hc2⟩ := h2.get hj
    rw [e] at e2
    injection e2 with e2
    injection e2 with e3 e4
    subst e3 e4
    rw [hc] at hc2
    injection hc2 with hc2
    injection hc2 with _ hc2
    omega
  · rw [lim_of_ge (by rw [h.len]; exact hj), lim_of_ge (by rw [h2.len]; exact hj)]
def HasVal (w : World) (v : Value) (x : Nat) : Prop := ∃ A n c xs, v = .slice A n c ∧ Rd w A n c xs ∧ val xs = x
open Classical in
/-- The number that a slice of limbs stands for. -/
noncomputable def vOf (w : World) (v : Value) : Nat := if h : ∃ x, HasVal w v x then Classical.choose h else 0
theorem vOf_eq {w : World} {A : Option Addr} {n c : Nat} {xs : List Nat} (h : Rd w A n c xs) : vOf w (.slice A n c) = val xs := by
  have hx : ∃ x, HasVal w (.slice A n c) x := ⟨_, A, n, c, xs, rfl, h, rfl⟩
  unfold vOf
  rw [dif_pos hx]
  obtain ⟨A2, n2, c2, ys, e, h2, hv⟩ := Classical.choose_spec hx
  injection e with e1 e2 e3
  subst e1 e2 e3
  rw [← hv]
  exact h2.same h

def GRel (G : Nat) (w : World) (av bv : Value) (wr : World) : Prop :=
  ∃ (x y : Nat) (A1 : Option Addr) (L c1 : Nat) (A2 : Option Addr) (M c2 : Nat), av = .slice A1 L c1 ∧ bv = .slice A2 M c2 ∧ Rd wr A1 L c1 (dg x) ∧ Rd wr A2 M c2 (dg y) ∧ Below w.heap.size w wr ∧ y ≤ x ∧ L ≤ 65536 ∧ Nat.gcd x y = G
section
variable (A B : Option Addr) (n m c d : Nat) (xs ys : List Nat) (w : World) (X Y : Nat) (h : Rd w A n c xs) (h2 : Rd w B m d ys) (hn : n ≤ 65536) (hm : m ≤ 65536) (hX : val xs = X) (hY : val ys = Y)
include h h2 hn hm hX hY
set_option maxHeartbeats 1600000 in
theorem gcd_up (hle : Y ≤ X) : Calls Tryz.prog 69 #[.slice A n c, .slice B m d] w (Gives w (dg (Nat.gcd X Y))) := by
  obtain ⟨L, hL⟩ : ∃ L, (dg X).length = L := ⟨_, rfl⟩
  obtain ⟨M, hM⟩ : ∃ M, (dg Y).length = M := ⟨_, rfl⟩
  have hLn : L ≤ 65536 := by rw [← hL, ← hX, len_dg_val h.sm]; have := tlen_le xs; have := h.len; omega
  have hMn : M ≤ 65536 := by rw [← hM, ← hY, len_dg_val h2.sm]; have := tlen_le ys; have := h2.len; omega
  obtain ⟨r, hr, hr0⟩ : ∃ r, sg (val (dg X)) (val (dg Y)) = r ∧ 0 ≤ r := ⟨_, rfl, by rw [val_dg, val_dg]; unfold sg; rw [if_neg (by omega)]; split <;> omega⟩
  have HM1 := hide (fun (W : World) (hb : Rd W A n c xs) => make_at A n c xs W X L hX hL hb (by omega))
  have HM2 := hide (fun (W : World) (hb : Rd W B m d ys) => make_at B m d ys W Y M hY hM hb (by omega))
  obtain ⟨G, hG⟩ : ∃ G, G = Nat.gcd X Y := ⟨_, rfl⟩
  rw [← hG]
  have HS := hide hr
  have HG := hide (And.intro hG (And.intro hle (And.intro hL hM)))
  clear hr hL hM hle hX hY hG
  go_enter Tryz.func69, Tryz.ntmps69
  go_wp2_with (first
      | (go_at_call 34; (with_reducible refine (unhide HM1 _ h).mono ?_); rintro e w1 ⟨A1, c1, rfl, hr1, hb1⟩; have h2w := h2.below hb1)
      | (go_at_call 34; (with_reducible refine (unhide HM2 _ h2w).mono ?_); rintro e w2 ⟨A2, c2, rfl, hr2, hb2⟩; have hr1' := hr1.below hb2)
      | (go_at_call 65; refine (cmp_calls _ _ _ _ _ _ _ _ _ r hr1' hr2 (by omega) (by omega) HS.out).mono ?_; rintro e w' ⟨rfl, q, rfl⟩; have hr1'' := hr1'.below (below_drewN (Below.refl _ _) q); have hr2'' := hr2.below (below_drewN (Below.refl _ _) q)))
  go_loopw [0, 1] (fun av bv wr => GRel G w av bv wr) (fun _ bv wr => vOf wr bv)
  case atStart => exact ⟨X, Y, A1, L, c1, A2, M, c2, rfl, rfl, hr1'', hr2'', below_drewN (below_then hb1 (Nat.le_refl _) hb2) q, HG.out.2.1, hLn, HG.out.1.symm⟩
  case round =>
    obtain ⟨x, y, B1, L1, d1, B2, M1, d2, rfl, rfl, k1, k2, hb, hyx, hL1, hg⟩ := hrel
    have hl1 := k1.len
    have hl2 := k2.len
    have hM1 : M1 ≤ L1 := by
      have := tlen_mono (sm_dg y) (sm_dg x) (by rw [val_dg, val_dg]; exact hyx)
      rw [tlen_dg, tlen_dg] at this
      omega
    by_cases hM2 : 2 < M1
    · have HR := hide (red_calls B1 B2 L1 M1 d1 d2 x y wr k1 k2 hL1 hyx (by omega))
      have HK := hide (And.intro hg (And.intro hyx (And.intro hl1 hl2)))
      clear hg hyx hl1 hl2
      go_wp2_with (go_at_call 90; refine (unhide HR).mono ?_; rintro e w3 ⟨x', y', ⟨A3, c3, A4, c4, rfl, hr3, hr4, hb4⟩, k3, k4, k5, k6⟩)
      go_roundw
      case rel => exact ⟨x', y', A3, _, c3, A4, _, c4, rfl, rfl, hr3, hr4, below_then hb (Nat.le_refl _) hb4, k3, Nat.le_trans (len_dg_le (Nat.lt_of_le_of_lt k4 (lt_of_len (Nat.le_of_eq HK.out.2.2.1)))) hL1, k6.trans HK.out.1⟩
      case measure =>
        show vOf _ (.slice A4 _ c4) < vOf _ (.slice B2 M1 d2)
        rw [vOf_eq hr4, vOf_eq k2, val_dg, val_dg]
        exact k5
    · by_cases hM0 : M1 = 0
      · subst hM0
        have hy0 : y = 0 := dg_nil_iff.1 (List.eq_nil_of_length_eq_zero hl2)
        subst hy0
        rw [Nat.gcd_zero_right] at hg
        subst hg
        have HK := hide hl1
        clear hl1 hl2
        go_wp2
        go_ret
        exact ⟨B1, d1, by rw [HK.out]; rfl, by rw [HK.out]; exact k1, hb⟩
      · have hM3 : ((M1 : Int) == 0) = false := by simp; omega
        have hy0 : 0 < y := by
          rcases Nat.eq_zero_or_pos y with h0 | h0
          · rw [h0, dg_zero] at hl2; simp at hl2; omega
          · exact h0
        have hYs := u64_two (sm_dg y) (by omega)
        rw [val_dg] at hYs
        have hR : x % y < y := Nat.mod_lt _ hy0
        have hRl : (dg (x % y)).length ≤ 2 := Nat.le_trans (len_dg_le (Nat.lt_trans hR (lt_of_len (Nat.le_of_eq hl2)))) (by omega)
        have HLY := hide (show lim (dg y) 0 + 4294967296 * lim (dg y) 1 = y by rw [val_two (by omega), val_dg])
        have HLR := hide (show lim (dg (x % y)) 0 + 4294967296 * lim (dg (x % y)) 1 = x % y by rw [val_two (by omega), val_dg])
        have hGy : Nat.gcd y (x % y) = Nat.gcd x y := gcd_step
        rw [hg] at hGy
        have hGb : G ≤ 18446744073709551615 := by rw [← hg]; exact Nat.le_trans (Nat.gcd_le_right x hy0) hYs
        have hRb : x % y ≤ 18446744073709551615 := by omega
        have HDM := hide (by
          have := divmod_calls B1 B2 L1 M1 d1 d2 _ _ wr k1 k2 hL1 (by omega) (by rw [val_dg]; exact hy0)
          rwa [val_dg, val_dg] at this : Calls Tryz.prog 79 #[.slice B1 L1 d1, .slice B2 M1 d2] wr (Gives3 wr (dg (x / y)) (dg (x % y)) 0))
        have HGy := hide (And.intro hGy hGb)
        have HYR := hide (And.intro hYs hRb)
        clear hg hR hRl hGy hGb hYs hRb hl1 hl2 hyx
        go_wp2_with (first
          | (go_at_call 79; refine (unhide HDM).mono ?_; rintro e w3 ⟨A3, c3, A4, c4, rfl, hr3, hr4, hb4⟩; have hr5 := k2.below hb4)
          | (go_at_call 92; (with_reducible refine (low_at B2 _ _ _ _ y HLY.out hr5).mono ?_); rintro e w' ⟨rfl, rfl⟩)
          | (go_at_call 92; (with_reducible refine (low_at A4 _ _ _ _ (x % y) HLR.out hr4).mono ?_); rintro e w' ⟨rfl, rfl⟩)
          | (go_at_call 91; refine (sgcd_calls y (x % y) _ HYR.out.1 HYR.out.2).mono ?_; rintro e w' ⟨rfl, q2, rfl⟩)
          | (go_at_call 33; refine (of_int _ G _ (by rw [HGy.out.1]) HGy.out.2).mono ?_; rintro e w6 ⟨A6, c6, rfl, hr6, hb6⟩)
          | fail)
        go_ret
        exact ⟨A6, c6, rfl, hr6, below_then (below_drewN (below_then hb (Nat.le_refl _) hb4) q2) (Nat.le_refl _) hb6⟩
set_option maxHeartbeats 1600000 in
theorem gcd_dn (hle : X < Y) : Calls Tryz.prog 69 #[.slice A n c, .slice B m d] w (Gives w (dg (Nat.gcd X Y))) := by
  obtain ⟨L, hL⟩ : ∃ L, (dg X).length = L := ⟨_, rfl⟩
  obtain ⟨M, hM⟩ : ∃ M, (dg Y).length = M := ⟨_, rfl⟩
  have hLn : L ≤ 65536 := by rw [← hL, ← hX, len_dg_val h.sm]; have := tlen_le xs; have := h.len; omega
  have hMn : M ≤ 65536 := by rw [← hM, ← hY, len_dg_val h2.sm]; have := tlen_le ys; have := h2.len; omega
  obtain ⟨r, hr, hr0⟩ : ∃ r, sg (val (dg X)) (val (dg Y)) = r ∧ r < 0 := ⟨_, rfl, by rw [val_dg, val_dg, sg_lt hle]; omega⟩
  have HM1 := hide (fun (W : World) (hb : Rd W A n c xs) => make_at A n c xs W X L hX hL hb (by omega))
  have HM2 := hide (fun (W : World) (hb : Rd W B m d ys) => make_at B m d ys W Y M hY hM hb (by omega))
  obtain ⟨G, hG⟩ : ∃ G, G = Nat.gcd X Y := ⟨_, rfl⟩
  rw [← hG]
  have HS := hide hr
  have HG := hide (And.intro hG (And.intro hle (And.intro hL hM)))
  clear hr hL hM hle hX hY hG
  go_enter Tryz.func69, Tryz.ntmps69
  go_wp2_with (first
      | (go_at_call 34; (with_reducible refine (unhide HM1 _ h).mono ?_); rintro e w1 ⟨A1, c1, rfl, hr1, hb1⟩; have h2w := h2.below hb1)
      | (go_at_call 34; (with_reducible refine (unhide HM2 _ h2w).mono ?_); rintro e w2 ⟨A2, c2, rfl, hr2, hb2⟩; have hr1' := hr1.below hb2)
      | (go_at_call 65; refine (cmp_calls _ _ _ _ _ _ _ _ _ r hr1' hr2 (by omega) (by omega) HS.out).mono ?_; rintro e w' ⟨rfl, q, rfl⟩; have hr1'' := hr1'.below (below_drewN (Below.refl _ _) q); have hr2'' := hr2.below (below_drewN (Below.refl _ _) q)))
  go_loopw [0, 1] (fun av bv wr => GRel G w av bv wr) (fun _ bv wr => vOf wr bv)
  case atStart => exact ⟨Y, X, A2, M, c2, A1, L, c1, rfl, rfl, hr2'', hr1'', below_drewN (below_then hb1 (Nat.le_refl _) hb2) q, Nat.le_of_lt HG.out.2.1, hMn, (Nat.gcd_comm _ _).trans HG.out.1.symm⟩
  case round =>
    obtain ⟨x, y, B1, L1, d1, B2, M1, d2, rfl, rfl, k1, k2, hb, hyx, hL1, hg⟩ := hrel
    have hl1 := k1.len
    have hl2 := k2.len
    have hM1 : M1 ≤ L1 := by
      have := tlen_mono (sm_dg y) (sm_dg x) (by rw [val_dg, val_dg]; exact hyx)
      rw [tlen_dg, tlen_dg] at this
      omega
    by_cases hM2 : 2 < M1
    · have HR := hide (red_calls B1 B2 L1 M1 d1 d2 x y wr k1 k2 hL1 hyx (by omega))
      have HK := hide (And.intro hg (And.intro hyx (And.intro hl1 hl2)))
      clear hg hyx hl1 hl2
      go_wp2_with (go_at_call 90; refine (unhide HR).mono ?_; rintro e w3 ⟨x', y', ⟨A3, c3, A4, c4, rfl, hr3, hr4, hb4⟩, k3, k4, k5, k6⟩)
      go_roundw
      case rel => exact ⟨x', y', A3, _, c3, A4, _, c4, rfl, rfl, hr3, hr4, below_then hb (Nat.le_refl _) hb4, k3, Nat.le_trans (len_dg_le (Nat.lt_of_le_of_lt k4 (lt_of_len (Nat.le_of_eq HK.out.2.2.1)))) hL1, k6.trans HK.out.1⟩
      case measure =>
        show vOf _ (.slice A4 _ c4) < vOf _ (.slice B2 M1 d2)
        rw [vOf_eq hr4, vOf_eq k2, val_dg, val_dg]
        exact k5
    · by_cases hM0 : M1 = 0
      · subst hM0
        have hy0 : y = 0 := dg_nil_iff.1 (List.eq_nil_of_length_eq_zero hl2)
        subst hy0
        rw [Nat.gcd_zero_right] at hg
        subst hg
        have HK := hide hl1
        clear hl1 hl2
        go_wp2
        go_ret
        exact ⟨B1, d1, by rw [HK.out]; rfl, by rw [HK.out]; exact k1, hb⟩
      · have hM3 : ((M1 : Int) == 0) = false := by simp; omega
        have hy0 : 0 < y := by
          rcases Nat.eq_zero_or_pos y with h0 | h0
          · rw [h0, dg_zero] at hl2; simp at hl2; omega
          · exact h0
        have hYs := u64_two (sm_dg y) (by omega)
        rw [val_dg] at hYs
        have hR : x % y < y := Nat.mod_lt _ hy0
        have hRl : (dg (x % y)).length ≤ 2 := Nat.le_trans (len_dg_le (Nat.lt_trans hR (lt_of_len (Nat.le_of_eq hl2)))) (by omega)
        have HLY := hide (show lim (dg y) 0 + 4294967296 * lim (dg y) 1 = y by rw [val_two (by omega), val_dg])
        have HLR := hide (show lim (dg (x % y)) 0 + 4294967296 * lim (dg (x % y)) 1 = x % y by rw [val_two (by omega), val_dg])
        have hGy : Nat.gcd y (x % y) = Nat.gcd x y := gcd_step
        rw [hg] at hGy
        have hGb : G ≤ 18446744073709551615 := by rw [← hg]; exact Nat.le_trans (Nat.gcd_le_right x hy0) hYs
        have hRb : x % y ≤ 18446744073709551615 := by omega
        have HDM := hide (by
          have := divmod_calls B1 B2 L1 M1 d1 d2 _ _ wr k1 k2 hL1 (by omega) (by rw [val_dg]; exact hy0)
          rwa [val_dg, val_dg] at this : Calls Tryz.prog 79 #[.slice B1 L1 d1, .slice B2 M1 d2] wr (Gives3 wr (dg (x / y)) (dg (x % y)) 0))
        have HGy := hide (And.intro hGy hGb)
        have HYR := hide (And.intro hYs hRb)
        clear hg hR hRl hGy hGb hYs hRb hl1 hl2 hyx
        go_wp2_with (first
          | (go_at_call 79; refine (unhide HDM).mono ?_; rintro e w3 ⟨A3, c3, A4, c4, rfl, hr3, hr4, hb4⟩; have hr5 := k2.below hb4)
          | (go_at_call 92; (with_reducible refine (low_at B2 _ _ _ _ y HLY.out hr5).mono ?_); rintro e w' ⟨rfl, rfl⟩)
          | (go_at_call 92; (with_reducible refine (low_at A4 _ _ _ _ (x % y) HLR.out hr4).mono ?_); rintro e w' ⟨rfl, rfl⟩)
          | (go_at_call 91; refine (sgcd_calls y (x % y) _ HYR.out.1 HYR.out.2).mono ?_; rintro e w' ⟨rfl, q2, rfl⟩)
          | (go_at_call 33; refine (of_int _ G _ (by rw [HGy.out.1]) HGy.out.2).mono ?_; rintro e w6 ⟨A6, c6, rfl, hr6, hb6⟩)
          | fail)
        go_ret
        exact ⟨A6, c6, rfl, hr6, below_then (below_drewN (below_then hb (Nat.le_refl _) hb4) q2) (Nat.le_refl _) hb6⟩
theorem gcd_calls : Calls Tryz.prog 69 #[.slice A n c, .slice B m d] w (Gives w (dg (Nat.gcd X Y))) := by
  rcases Nat.lt_or_ge X Y with hlt | hge
  · exact gcd_dn A B n m c d xs ys w X Y h h2 hn hm hX hY hlt
  · exact gcd_up A B n m c d xs ys w X Y h h2 hn hm hX hY hge
end
end Go.Proofs.YtnddhohjfjlaiaaGreatDoor

/-
  Plain facts on division bit by bit.
-/
namespace Go.Proofs.YtnddhohjfjlaiaaGreatDoor
set_option linter.unusedVariables false
set_option linter.unusedSimpArgs false

theorem val_set {xs : List Nat} {k v : Nat} (h : k < xs.length) : val (xs.set k v) + pw k * lim xs k = val xs + pw k * v := by
  have h1 := val_split (xs.set k v) (k + 1) (by rw [List.length_set]; omega)
  have h2 := val_split xs (k + 1) (by omega)
  rw [List.drop_set, if_pos (by omega), pv_set h] at h1
  rw [pv_succ] at h2
  omega
theorem two_succ (j : Nat) : 2 ^ (j + 1) = 2 ^ j * 2 := Nat.pow_succ 2 j
theorem bit_of {xs : List Nat} (hs : Sm xs) (j : Nat) : lim xs (j / 32) / 2 ^ (j % 32) % 2 = val xs / 2 ^ j % 2 := by
  rw [← shr_whole hs j]
  have e : val (xs.drop (j / 32)) = lim xs (j / 32) + 4294967296 * val ((xs.drop (j / 32)).drop 1) := by
    rcases Nat.lt_or_ge (j / 32) xs.length with h | h
    · rw [val_cons_drop h, List.drop_drop]
    · rw [List.drop_of_length_le h, lim_of_ge h]; rfl
  rw [e]
  have h32 := pow32 (s := j % 32) (by omega)
  have hp := Nat.two_pow_pos (j % 32)
  rw [← h32, Nat.mul_assoc, Nat.add_mul_div_left _ _ hp, show 32 - j % 32 = (31 - j % 32) + 1 by omega, two_succ, Nat.mul_assoc, Nat.mul_left_comm, Nat.add_mul_mod_self_left]
def BdInv (Qs : List Nat) (X Y n j r : Nat) : Prop := Qs.length = n ∧ Sm Qs ∧ r = X / 2 ^ j % Y ∧ val Qs = 2 ^ j * (X / 2 ^ j / Y)
theorem bd_start {X Y j : Nat} (n : Nat) (h : X < 2 ^ j) : BdInv (List.replicate n 0) X Y n j 0 := by
  refine ⟨List.length_replicate, Sm.replicate _, ?_, ?_⟩
  · rw [Nat.div_eq_of_lt h, Nat.zero_mod]
  · rw [Nat.div_eq_of_lt h, Nat.zero_div, Nat.mul_zero, val_replicate]
theorem bd_parts {X Y j r : Nat} (hY : 0 < Y) (hr : r = X / 2 ^ (j + 1) % Y) : X / 2 ^ j = (r * 2 + X / 2 ^ j % 2) + Y * (2 * (X / 2 ^ (j + 1) / Y)) ∧ r < Y := by
  have e : X / 2 ^ j / 2 = X / 2 ^ (j + 1) := by rw [Nat.div_div_eq_div_mul, two_succ]
  have h1 := Nat.div_add_mod (X / 2 ^ j) 2
  have h2 := Nat.div_add_mod (X / 2 ^ (j + 1)) Y
  have h3 := Nat.mod_lt (X / 2 ^ (j + 1)) hY
  rw [← hr] at h2 h3
  rw [e] at h1
  refine ⟨?_, h3⟩
  rw [Nat.mul_left_comm]
  omega
theorem bd_low {Qs : List Nat} {X Y n j r b : Nat} (hY : 0 < Y) (hb : b = X / 2 ^ j % 2) (h : BdInv Qs X Y n (j + 1) r) (hlt : r * 2 + b < Y) : BdInv Qs X Y n j (r * 2 + b) := by
  obtain ⟨h1, h2, h3, h4⟩ := h
  obtain ⟨e, hr⟩ := bd_parts hY h3
  rw [← hb] at e
  refine ⟨h1, h2, ?_, ?_⟩
  · rw [e, Nat.add_mul_mod_self_left, Nat.mod_eq_of_lt hlt]
  · rw [h4, e, Nat.add_mul_div_left _ _ hY, Nat.div_eq_of_lt hlt, two_succ, Nat.zero_add, Nat.mul_assoc]
theorem bd_high {Qs : List Nat} {X Y n j r b : Nat} (hY : 0 < Y) (hb : b = X / 2 ^ j % 2) (h : BdInv Qs X Y n (j + 1) r) (hge : Y ≤ r * 2 + b) (hj : j / 32 < n) :
    BdInv (Qs.set (j / 32) (lim Qs (j / 32) + 2 ^ (j % 32))) X Y n j (r * 2 + b - Y) ∧ lim Qs (j / 32) ||| 2 ^ (j % 32) = lim Qs (j / 32) + 2 ^ (j % 32) ∧ lim Qs (j / 32) + 2 ^ (j % 32) < 4294967296 := by
  obtain ⟨h1, h2, h3, h4⟩ := h
  obtain ⟨e, hr⟩ := bd_parts hY h3
  rw [← hb] at e
  have hb2 : b < 2 := by omega
  have hlt : r * 2 + b - Y < Y := by omega
  have e2 : r * 2 + b + Y * (2 * (X / 2 ^ (j + 1) / Y)) = (r * 2 + b - Y) + Y * (2 * (X / 2 ^ (j + 1) / Y) + 1) := by
    rw [Nat.mul_add Y _ 1]
    omega
  have hdiv : lim Qs (j / 32) = 2 ^ (j % 32 + 1) * (lim Qs (j / 32) / 2 ^ (j % 32 + 1)) := by
    have hv := val_drop Qs h2 (j / 32)
    rw [h4, show 2 ^ (j + 1) = pw (j / 32) * 2 ^ (j % 32 + 1) by rw [two_succ, two_succ, pow_split j, Nat.mul_assoc], Nat.mul_assoc, Nat.mul_div_cancel_left _ (pw_pos _), val_cons_drop (by omega)] at hv
    have h32 := pow32 (s := j % 32 + 1) (by omega)
    have hd : 2 ^ (j % 32 + 1) ∣ lim Qs (j / 32) := by
      refine (Nat.dvd_add_iff_left ?_).2 ⟨_, hv⟩
      exact Nat.dvd_trans ⟨_, h32.symm⟩ (Nat.dvd_mul_right _ _)
    exact (Nat.mul_div_cancel' hd).symm
  have hs := h2.lim (j / 32)
  have hlt2 : lim Qs (j / 32) + 2 ^ (j % 32) < 4294967296 := by
    have h32 := pow32 (s := j % 32 + 1) (by omega)
    have hp := Nat.two_pow_pos (j % 32)
    generalize lim Qs (j / 32) / 2 ^ (j % 32 + 1) = t at hdiv
    have ht : t < 2 ^ (32 - (j % 32 + 1)) := by
      rcases Nat.lt_or_ge t (2 ^ (32 - (j % 32 + 1))) with h | h
      · exact h
      · have := Nat.mul_le_mul_left (2 ^ (j % 32 + 1)) h
        omega
    have := Nat.mul_le_mul_left (2 ^ (j % 32 + 1)) (show t + 1 ≤ 2 ^ (32 - (j % 32 + 1)) from ht)
    rw [Nat.mul_add, Nat.mul_one, ← hdiv, h32, two_succ] at this
    omega
  refine ⟨⟨by rw [List.length_set, h1], h2.set _ hlt2, ?_, ?_⟩, ?_, hlt2⟩
  · rw [e, e2, Nat.add_mul_mod_self_left, Nat.mod_eq_of_lt hlt]
  · have := val_set (xs := Qs) (k := j / 32) (v := lim Qs (j / 32) + 2 ^ (j % 32)) (by omega)
    rw [Nat.mul_add, ← pow_split, h4] at this
    rw [e, e2, Nat.add_mul_div_left _ _ hY, Nat.div_eq_of_lt hlt, Nat.zero_add, Nat.mul_add, Nat.mul_one, ← Nat.mul_assoc, ← two_succ]
    omega
  · have h5 := or_add (s := j % 32 + 1) (h := 2 ^ (j % 32)) (y := lim Qs (j / 32) / 2 ^ (j % 32 + 1)) (by rw [two_succ]; have := Nat.two_pow_pos (j % 32); omega)
    rw [← hdiv] at h5
    rw [Nat.or_comm, h5, Nat.add_comm]
theorem bd_end {Qs : List Nat} {X Y n r : Nat} (h : BdInv Qs X Y n 0 r) : val Qs = X / Y ∧ r = X % Y := by
  obtain ⟨h1, h2, h3, h4⟩ := h
  rw [Nat.pow_zero, Nat.div_one] at h3 h4
  exact ⟨by rw [h4, Nat.one_mul], h3⟩
end Go.Proofs.YtnddhohjfjlaiaaGreatDoor

/-
  The specification's Make and Sub, whose results are new.
-/
namespace Go.Proofs.YtnddhohjfjlaiaaGreatDoor
open Go.RowKit
set_option linter.unusedVariables false
set_option linter.unusedSimpArgs false

/-- The slice lies in memory that is not older than B. -/
def Fresh (B : Nat) (A : Option Addr) (n : Nat) : Prop := 0 < n → ∀ ad, A = some ad → B ≤ ad.block
theorem Own.fresh {w : World} {base : Nat} {A : Option Addr} {n c : Nat} {xs : List Nat} (h : Own w base A n c xs) : Fresh base A n := fun hn ad had => by
  obtain ⟨g, cap, hv, hg, hlt⟩ := h.form hn
  have hA : A = some ⟨g, 0, none⟩ := by injection hv
  rw [hA] at had
  injection had with had
  rw [← had]
  exact hg
def GivesF (w : World) (xs : List Nat) (e : Ending) (w' : World) : Prop := ∃ A c, e = .returned (.slice A xs.length c) ∧ Rd w' A xs.length c xs ∧ Below w.heap.size w w' ∧ Fresh w.heap.size A xs.length
def GivesEF (w : World) (xs : List Nat) (r : Int) (e : Ending) (w' : World) : Prop := ∃ A c, e = .returned (.tuple #[.slice A xs.length c, .int .i64 r]) ∧ Rd w' A xs.length c xs ∧ Below w.heap.size w w' ∧ Fresh w.heap.size A xs.length
theorem rmake_new (A : Option Addr) (n c : Nat) (xs : List Nat) (w : World) (h : Rd w A n c xs) (hn : n ≤ 4194304) :
    Calls Tryz.prog 82 #[.slice A n c] w (GivesF w (dg (val xs))) := by
  have hcap := h.cap
  have hlen := h.len
  have HL := hide hlen
  clear hlen
  have h2 : Rd (w.alloc (.cells #[] 57)) A n c xs := h.below ((Below.refl _ _).alloc (Nat.le_refl _) _)
  go_enter Tryz.func82, Tryz.ntmps82
  go_wp2
  go_loop [3] (fun k => ∃ j : Nat, j ≤ n ∧ k = .int .i64 j ∧ Hid (∀ i, j ≤ i → lim xs i = 0)) (fun k => (intOf k).toNat)
  case atStart => exact ⟨n, Nat.le_refl _, rfl, fun i hi => lim_of_ge (by have := HL.out; omega)⟩
  case round =>
    obtain ⟨j, hj, rfl, hz⟩ := hrel
    have fin : tlen xs = j → ∀ A' c' w', Own w' w.heap.size A' (0 + j) c' ([] ++ xs.take j) → Below w.heap.size (w.alloc (.cells #[] 57)) w' → GivesF w (dg (val xs)) (.returned (.slice A' (0 + j) c')) w' := by
      intro ht A' c' w' hown hb
      have e1 := dg_val h.sm
      have e2 := len_dg_val h.sm
      rw [ht] at e1 e2
      refine ⟨A', c', by rw [e2]; simp, ?_, ((Below.refl _ _).alloc (Nat.le_refl _) _).trans hb, by rw [e2]; simpa using hown.fresh⟩
      rw [e2, e1]
      simpa using hown.rd (by simpa using h.sm.take _)
    have FIN := hide fin
    clear fin
    by_cases h0 : j = 0
    · have hd : decide ((0 : Int) < (j : Int)) = false := by simp; omega
      have hd2 : ¬ (0 : Int) < (j : Int) := by omega
      have H0 := hide h0
      clear h0
      have h3 := h2.take hj
      go_wp2_with (at_builtin; refine wpList_app rfl (.tmp 18) (.tmp 21) 23 22 rfl (.inr rfl) (.inl rfl) w.heap.size _ 0 0 [] rfl (Own.empty w _ (Nat.le_refl _)) _ j c _ rfl h3 (by omega) (by simp) ?_; intro A' c' w' hown hb)
      go_ret
      have h0 := H0.out
      subst h0
      exact FIN.out (tlen_of (fun k hk => hz.out k hk) (.inl rfl)) A' c' w' hown hb
    · have hl := h.sm.lim (j - 1)
      obtain ⟨b, off, rfl, hb, hc⟩ := h.get (k := j - 1) (by omega)
      have hd : (0 : Int) < j := by omega
      have h3 := h2.take hj
      go_wp2_with (at_builtin; refine wpList_app rfl (.tmp 18) (.tmp 21) 23 22 rfl (.inr rfl) (.inl rfl) w.heap.size _ 0 0 [] rfl (Own.empty w _ (Nat.le_refl _)) _ j c _ rfl h3 (by omega) (by simp) ?_; intro A' c' w' hown hb')
      · have ht : ((lim xs (j - 1) : Int) == 0) = true := by assumption
        go_round
        case rel =>
          refine ⟨j - 1, by omega, by go_num, fun i hi => ?_⟩
          by_cases he : i = j - 1
          · subst he; have := WalkArith.int_eq ht; omega
          · exact hz.out i (by omega)
        case measure => simp [intOf]; omega
      · have ht : ((lim xs (j - 1) : Int) == 0) = false := by assumption
        go_ret
        have := FIN.out (tlen_of (fun k hk => hz.out k hk) (.inr (by have := WalkArith.int_ne ht; omega))) A' c' w' hown hb'
        simpa using this
theorem rmake_newat (A : Option Addr) (n c : Nat) (xs : List Nat) (w : World) (X : Nat) (hX : val xs = X) (h : Rd w A n c xs) (hn : n ≤ 4194304) : Calls Tryz.prog 82 #[.slice A n c] w (GivesF w (dg X)) := by
  subst hX
  exact rmake_new A n c xs w h hn
theorem rsub_new (A B : Option Addr) (n m c d : Nat) (xs ys : List Nat) (w : World) (h : Rd w A n c xs) (h2 : Rd w B m d ys) (hn : n ≤ 1048576) (hm : m ≤ 1048576) (hle : val ys ≤ val xs) :
    Calls Tryz.prog 102 #[.slice A n c, .slice B m d] w (GivesEF w (dg (val xs - val ys)) 0) := by
  obtain ⟨r, hr, hr0⟩ : ∃ r, sg (val xs) (val ys) = r ∧ 0 ≤ r := ⟨_, rfl, by unfold sg; rw [if_neg (by omega)]; split <;> omega⟩
  have HR := hide hr
  have HL := hide (And.intro h.len hle)
  clear hr hle
  go_enter Tryz.func102, Tryz.ntmps102
  go_wp2_with (go_at_call 56; refine (rcmp_calls A B n m c d xs ys _ r h h2 hn hm HR.out).mono ?_; rintro e w' ⟨rfl, rfl⟩)
  go_loopw [6, 7, 8] (fun o cy i wr => ∃ (k bw : Nat) (A1 : Option Addr) (c1 : Nat) (L : List Nat), k ≤ n ∧ i = .int .i64 k ∧ cy = .int .u64 bw ∧ bw ≤ 1 ∧ o = .slice A1 k c1 ∧ Own wr w.heap.size A1 k c1 L ∧ Below w.heap.size w wr ∧ Hid (SlInv L xs ys k bw)) (fun _ _ i _ => n - (intOf i).toNat)
  case atStart => exact ⟨0, 0, none, 0, [], by omega, rfl, rfl, by omega, rfl, Own.nil _ _, Below.refl _ _, ⟨rfl, Sm.nil, by simp [val, pv_zero]⟩⟩
  case round =>
    obtain ⟨k, bw, A1, c1, L, hk, rfl, rfl, hbw, rfl, hown, hb, HI⟩ := hrel
    have hx := h.sm.lim k
    have hy := h2.sm.lim k
    have hr1 := h.below hb
    have hr2 := h2.below hb
    have hbs := hb.size
    by_cases hkn : k < n
    · by_cases hlt : lim xs k < lim ys k + bw
      · have e1 : (lim xs k : Int) < (lim ys k : Int) + (bw : Int) := by omega
        obtain ⟨v, hv⟩ : ∃ v, v = lim xs k + 4294967296 - (lim ys k + bw) := ⟨_, rfl⟩
        have hv1 : ((lim xs k : Int) + 4294967296 - ((lim ys k : Int) + (bw : Int))) = (v : Int) := by omega
        have hv2 : v < 4294967296 := by omega
        have HS := hide (sl_step (q := 1) hv2 (by omega) HI.out)
        clear hv
        go_wp2_with (first
          | (go_at_call 81; (with_reducible refine (rlimb_calls A _ _ _ _ k hr1).mono ?_); rintro e w' ⟨rfl, rfl⟩)
          | (go_at_call 81; (with_reducible refine (rlimb_calls B _ _ _ _ k hr2).mono ?_); rintro e w' ⟨rfl, rfl⟩)
          | (at_builtin; refine wpList_app rfl (.tmp 36) (.tmp 41) 22 22 rfl (.inl rfl) (.inl rfl) w.heap.size A1 k c1 L rfl (hown.alloc _) _ 1 1 [v] rfl (rd_one _ v hv2) (by omega) (by simp; omega) ?_; intro A' c' w' hown' hb'))
        go_roundw
        case rel => exact ⟨k + 1, 1, A', c', L ++ [v], by omega, by go_num, by go_num, by omega, rfl, hown', (hb.alloc hbs _).trans hb', HS⟩
        case measure => simp [intOf]; omega
      · have e1 : ¬ (lim xs k : Int) < (lim ys k : Int) + (bw : Int) := by omega
        obtain ⟨v, hv⟩ : ∃ v, v = lim xs k - (lim ys k + bw) := ⟨_, rfl⟩
        have hv1 : ((lim xs k : Int) - ((lim ys k : Int) + (bw : Int))) = (v : Int) := by omega
        have hv2 : v < 4294967296 := by omega
        have HS := hide (sl_step (q := 0) hv2 (by omega) HI.out)
        clear hv
        go_wp2_with (first
          | (go_at_call 81; (with_reducible refine (rlimb_calls A _ _ _ _ k hr1).mono ?_); rintro e w' ⟨rfl, rfl⟩)
          | (go_at_call 81; (with_reducible refine (rlimb_calls B _ _ _ _ k hr2).mono ?_); rintro e w' ⟨rfl, rfl⟩)
          | (at_builtin; refine wpList_app rfl (.tmp 36) (.tmp 41) 22 22 rfl (.inl rfl) (.inl rfl) w.heap.size A1 k c1 L rfl (hown.alloc _) _ 1 1 [v] rfl (rd_one _ v hv2) (by omega) (by simp; omega) ?_; intro A' c' w' hown' hb'))
        go_roundw
        case rel => exact ⟨k + 1, 0, A', c', L ++ [v], by omega, by go_num, by go_num, by omega, rfl, hown', (hb.alloc hbs _).trans hb', HS⟩
        case measure => simp [intOf]; omega
    · obtain rfl : n = k := by omega
      have HE := hide (sl_end HL.out.1 h.sm HL.out.2 HI.out)
      have hs1 := HI.out.2.1
      go_wp2_with (go_at_call 82; refine (rmake_newat _ _ _ _ _ _ HE.out (hown.rd hs1) (by omega)).mono ?_; rintro e w2 ⟨A2, c2, rfl, hr, hb3, hfr⟩)
      go_ret2
      exact ⟨A2, c2, rfl, hr, below_then hb (Nat.le_refl _) hb3, fun hl ad had => Nat.le_trans hb.size (hfr hl ad had)⟩
theorem Rd.store {w : World} {A : Option Addr} {n c : Nat} {xs : List Nat} (h : Rd w A n c xs) {G B : Nat} (hf : Fresh B A n) (hG : G < B) (i : Nat) (v : Value) : Rd (w.setCell ⟨G, i, none⟩ v) A n c xs :=
  ⟨h.len, h.sm, h.cap, fun hn => by
    obtain ⟨b, off, hA, hb, hc⟩ := h.at_ hn
    have := hf hn _ hA
    refine ⟨b, off, hA, by simpa [World.setCell] using hb, fun k hk => ?_⟩
    rw [← hc k hk]
    exact World.cell?_of_block (Below.heap_setCell w _ v b (by show b ≠ G; simp at this; omega))⟩
end Go.Proofs.YtnddhohjfjlaiaaGreatDoor

/-
  The specification's DivMod: bit by bit.
-/
namespace Go.Proofs.YtnddhohjfjlaiaaGreatDoor
open Go.RowKit
set_option linter.unusedVariables false
set_option linter.unusedSimpArgs false

theorem rshl1 (A : Option Addr) (n c r : Nat) (w : World) (h : Rd w A n c (dg r)) (hn : n ≤ 1048576) : Calls Tryz.prog 60 #[.slice A n c, .int .i64 1] w (Gives w (dg (r * 2))) := by
  have := rshl_calls A n c (dg r) w 1 h hn (by omega)
  rwa [val_dg, Nat.pow_one] at this
def BdRel (X Y n G g0 : Nat) (w : World) (rv iv : Value) (wr : World) : Prop :=
  ∃ (j r : Nat) (R : Option Addr) (L c : Nat) (Qs : List Nat), rv = .slice R L c ∧ iv = .int .i64 ((j : Int) - 1) ∧ Rd wr R L c (dg r) ∧ Below w.heap.size w wr ∧ Blk wr G (arr Qs) ∧ j ≤ 32 * n ∧ Hid (BdInv Qs X Y n j r)
theorem rof_int (i : Int) (k : Nat) (w : World) (hi : i = (k : Int)) (hk : k ≤ 18446744073709551615) : Calls Tryz.prog 67 #[.int .u64 i] w (Gives w (dg k)) := by
  subst hi
  exact rof_calls k w hk
theorem nb_any {xs : List Nat} (hs : Sm xs) : nb xs ≤ 32 * xs.length ∧ val xs < 2 ^ nb xs := by
  rcases Nat.eq_zero_or_pos (tlen xs) with h0 | h0
  · unfold nb
    rw [if_pos h0, tlen_zero_iff.1 h0]
    simp
  · have hl := len_dg_val hs
    obtain ⟨r, hr, h1, h2, h3⟩ := nb_dg (X := val xs) (L := tlen xs - 1) (by omega)
    have e : nb (dg (val xs)) = nb xs := by
      unfold nb
      rw [dg_val hs]
      have ht : tlen (xs.take (tlen xs)) = tlen xs := by rw [← dg_val hs, tlen_dg, hl]
      rw [ht, lim_take (by omega)]
    have := tlen_le xs
    rw [← e, hr]
    exact ⟨by omega, h3⟩
section
variable (A B : Option Addr) (n m c d : Nat) (xs ys : List Nat) (w : World) (h : Rd w A n c xs) (h2 : Rd w B m d ys) (hn : n ≤ 16384) (hm : m ≤ 16384)
include h h2 hn hm
set_option maxHeartbeats 1600000 in
theorem rdm_ft (h0 : 0 < val ys) (vx vy : Nat) (ux : u64Of xs = (vx, false)) (uy : u64Of ys = (vy, true)) (hvy : ((vy : Int) == 0) = false) : Calls Tryz.prog 84 #[.slice A n c, .slice B m d] w (Gives3 w (dg (val xs / val ys)) (dg (val xs % val ys)) 0) := by
  obtain ⟨X, hX⟩ : ∃ X, val xs = X := ⟨_, rfl⟩
  obtain ⟨Y, hY⟩ : ∃ Y, val ys = Y := ⟨_, rfl⟩
  obtain ⟨b0, hb0, hb1, hb2⟩ : ∃ b0, nb xs = b0 ∧ b0 ≤ 32 * n ∧ X < 2 ^ b0 := by
    rw [← hX]
    have := nb_any h.sm
    rw [h.len] at this
    exact ⟨_, rfl, this.1, this.2⟩
  have hYm : Y < pw m := by rw [← hY]; exact rd_lt h2 (Nat.le_refl _)
  rw [hX, hY]
  rw [hY] at h0
  have hmk := fun W => run_mk 22 (.inl rfl) n (n : Int) rfl (by omega) W
  have HUX := hide (fun W (k : Rd W A n c xs) => ruint_calls A n c xs W vx false ux k (by omega))
  have HUY := hide (fun W (k : Rd W B m d ys) => ruint_calls B m d ys W vy true uy k (by omega))
  have HBI := hide (fun W (k : Rd W A n c xs) => rbits_calls A n c xs W b0 hb0 k (by omega))
  have HS := hide (bd_start (Y := Y) n hb2)
  have HX := hide (And.intro hX (And.intro hY (And.intro h0 hYm)))
  clear ux uy hb0 hb2 hX hY h0 hYm
  go_enter Tryz.func84, Tryz.ntmps84
  go_wp2_with fail
  refine (unhide HUX _ h).mono ?_
  rintro e w1 ⟨rfl, b1⟩
  have h_1 := h.below b1
  have k_1 := h2.below b1
  go_wp2_with fail
  refine (unhide HUY _ k_1).mono ?_
  rintro e w2 ⟨rfl, b2⟩
  have h_2 := h_1.below b2
  have k_2 := k_1.below b2
  have B2 := below_then b1 (Nat.le_refl _) b2
  clear h_1 k_1 b1 b2
  go_wp2_with fail
  refine (unhide HBI _ (h_2.below (((Below.refl _ _).alloc (Nat.le_refl _) _).alloc (by simp) _))).mono ?_
  rintro e w3 ⟨rfl, b3⟩
  have B2' := (B2.alloc B2.size (.cells (arr (zs n)) 57)).alloc (by simp; have := B2.size; omega) (.cells #[] 57)
  have B3 := below_then B2' (Nat.le_refl _) b3
  have hQ : Blk w3 w2.heap.size (arr (zs n)) := ((Blk.new w2 (arr (zs n))).alloc _).below b3 (by simp; omega)
  have hGw := B2.size
  clear b3 B2' B2
  generalize w2.heap.size = G at *
  go_wp2_with fail
  go_loopw [12, 13] (fun rv iv wr => BdRel X Y n G G w rv iv wr) (fun _ iv _ => (intOf iv + 1).toNat)
  case atStart => exact ⟨b0, 0, _, 0, _, zs n, rfl, rfl, Rd.empty _ _ _, B3, hQ, hb1, HS.out⟩
  case round =>
    obtain ⟨j, r, R, L, c1, Qs, rfl, rfl, hR, hb, hbl, hj, HI⟩ := hrel
    rcases Nat.eq_zero_or_pos j with hj0 | hj0
    · subst hj0
      have hE := bd_end HI.out
      have hr := blk_rd0 (c := n) (n := n) hbl HI.out.2.1 HI.out.1 (by omega)
      have HM := hide (rmake_calls _ _ _ _ _ hr (by omega))
      rw [hE.1] at HM
      have HL := hide hR.len
      have HE := hide hE.2
      clear hE
      go_wp2_with fail
      refine (unhide HM).mono ?_
      rintro e w5 ⟨A5, c5, rfl, hr5, hb5⟩
      have hR5 := hR.below hb5
      go_wp2
      go_ret3
      exact ⟨A5, c5, R, c1, by rw [← HE.out, HL.out]; rfl, hr5, by rw [← HE.out, HL.out]; exact hR5, below_then hb (Nat.le_refl _) hb5⟩
    · obtain ⟨i, rfl⟩ : ∃ i, j = i + 1 := ⟨j - 1, by omega⟩
      have e : ((i + 1 : Nat) : Int) - 1 = i := by omega
      rw [e]
      clear e
      have hin : i / 32 < n := by omega
      obtain ⟨qq, hqq⟩ : ∃ qq, qq = i / 32 := ⟨_, rfl⟩
      obtain ⟨ss, hss⟩ : ∃ ss, ss = i % 32 := ⟨_, rfl⟩
      have hqi : (i : Int) / 32 = (qq : Int) := by omega
      have hsi : (i : Int) % 32 = (ss : Int) := by omega
      have hs31 : ss < 32 := by omega
      have hrY : r < Y := by rw [HI.out.2.2.1]; exact Nat.mod_lt _ HX.out.2.2.1
      have hLm : L ≤ m := by rw [← hR.len]; exact dg_le (Nat.lt_trans hrY HX.out.2.2.2)
      obtain ⟨b, off, hA, -, hc⟩ := (h.below hb).get (k := qq) (by omega)
      subst hA
      obtain ⟨bt, hbt⟩ : ∃ bt, bt = lim xs qq / 2 ^ ss % 2 := ⟨_, rfl⟩
      have hbt1 : bt < 2 := by omega
      have hbX : bt = X / 2 ^ i % 2 := by rw [hbt, hqq, hss, bit_of h.sm, HX.out.1]
      have hlx := h.sm.lim qq
      have HQ2 := hide (And.intro hqq (And.intro hss (And.intro hbt hbX)))
      clear hqq hss hbt hbX
      go_wp2_with fail
      refine (rshl1 R L c1 r _ hR (by omega)).mono ?_
      rintro e w5 ⟨A5, c5, rfl, hr5, hb5⟩
      have h_w := h.below hb
      have h_5 := h_w.below hb5
      obtain ⟨b', off', hA', -, hc5⟩ := h_5.get (k := qq) (by omega)
      injection hA' with hA'
      injection hA' with hA1 hA2
      subst hA1 hA2
      have hand : bits .and .u32 ((lim xs qq : Int) / 2 ^ ss) 1 = (bt : Int) := by
        have e1 : (lim xs qq : Int) / 2 ^ ss = ((lim xs qq / 2 ^ ss : Nat) : Int) := by simp
        rw [e1, HQ2.out.2.2.1]
        have := u32_and_nat (lim xs qq / 2 ^ ss) 1 (Nat.lt_of_le_of_lt (Nat.div_le_self _ _) hlx) (by omega)
        rw [Nat.and_one_is_mod] at this
        exact this
      have hbl5 := hbl.below hb5 hbl.lt
      have hB5 := below_then hb (Nat.le_refl _) hb5
      clear h_w
      go_wp2_with fail
      refine (radd_at _ _ _ _ _ _ _ _ _ (r * 2) bt (r * 2 + bt) (val_dg _) (by simp [val]) rfl (hr5.below ((Below.refl _ _).alloc (Nat.le_refl _) _)) (rd_one _ bt (by omega)) (Nat.le_trans (dg_le (k := m + 1) (by rw [pw]; have := HX.out.2.2.2; omega)) (by omega)) (by omega)).mono ?_
      rintro e w6 ⟨A6, c6, rfl, hr6, hb6⟩
      have hbl6 := (hbl5.alloc _).below hb6 (hbl5.alloc _).lt
      have hB6 := below_then (hB5.alloc hB5.size _) (Nat.le_refl _) hb6
      clear hb6 hr5 hb5 hbl5 hc5 hand h_5
      have hl6 : (dg (r * 2 + bt)).length ≤ m + 1 := dg_le (k := m + 1) (by rw [pw]; have := HX.out.2.2.2; omega)
      have k_6 := h2.below hB6
      by_cases hlt : r * 2 + bt < Y
      · obtain ⟨rr, hrr, hr0⟩ : ∃ rr, sg (val (dg (r * 2 + bt))) (val ys) = rr ∧ rr < 0 := ⟨_, rfl, by rw [val_dg, HX.out.2.1, sg_lt hlt]; omega⟩
        have HRR := hide hrr
        have HBD := hide (bd_low HX.out.2.2.1 HQ2.out.2.2.2 HI.out hlt)
        clear hrr hlt
        go_wp2_with fail
        refine (rcmp_at _ _ _ _ _ _ _ _ _ rr HRR.out hr6 k_6 (by omega) (by omega)).mono ?_
        rintro e w' ⟨rfl, rfl⟩
        go_wp2
        go_roundw
        case rel => exact ⟨i, r * 2 + bt, A6, _, c6, Qs, rfl, by go_num, hr6, hB6, hbl6, by omega, HBD⟩
        case measure => simp [intOf] <;> omega
      · obtain ⟨rr, hrr, hr0⟩ : ∃ rr, sg (val (dg (r * 2 + bt))) (val ys) = rr ∧ 0 ≤ rr := ⟨_, rfl, by rw [val_dg, HX.out.2.1]; unfold sg; rw [if_neg (by omega)]; split <;> omega⟩
        have HRR := hide hrr
        obtain ⟨hbd, hor, hvb⟩ := bd_high HX.out.2.2.1 HQ2.out.2.2.2 HI.out (by omega) hin
        rw [← HQ2.out.1, ← HQ2.out.2.1] at hbd hor hvb
        have hSub := rsub_new A6 B _ m c6 d _ ys w6 hr6 k_6 (by omega) (by omega) (by rw [val_dg, HX.out.2.1]; omega)
        rw [val_dg, HX.out.2.1] at hSub
        have HSB := hide hSub
        obtain ⟨v, hv⟩ : ∃ v, v = lim Qs qq + 2 ^ ss := ⟨_, rfl⟩
        rw [← hv] at hbd hor hvb
        have HBD := hide hbd
        have h2s : (2 : Nat) ^ ss < 4294967296 := by omega
        have HORP := hide (show bits .or .u32 (lim Qs qq : Int) (2 ^ ss % 4294967296) = (v : Int) by
          have e1 : (2 : Int) ^ ss = ((2 ^ ss : Nat) : Int) := by simp
          have e2 : ((2 ^ ss : Nat) : Int) % 4294967296 = ((2 ^ ss : Nat) : Int) := by
            generalize (2 ^ ss : Nat) = z at h2s
            omega
          rw [e1, e2, u32_or_nat _ _ (HI.out.2.1.lim qq) h2s, hor])
        clear h2s
        have hlq := HI.out.2.1.lim qq
        clear hrr hlt hbd hor hSub hv
        go_wp2_with fail
        refine (rcmp_at _ _ _ _ _ _ _ _ _ rr HRR.out hr6 k_6 (by omega) (by omega)).mono ?_
        rintro e w' ⟨rfl, rfl⟩
        go_wp2_with fail
        refine (unhide HSB).mono ?_
        rintro e w7 ⟨A7, c7, rfl, hr7, hb7, hfr⟩
        have hbl7 := hbl6.below hb7 hbl6.lt
        have hB7 := below_then hB6 (Nat.le_refl _) hb7
        have hcq : w7.cell? ⟨G, qq, none⟩ = some (.int .u32 (lim Qs qq : Nat)) := blk_cell hbl7 (by rw [HI.out.1]; omega)
        have hfq := hbl7.frozen qq
        go_wp2_with fail
        go_region
        go_wp2
        go_roundw
        case rel =>
          rw [HORP.out]
          exact ⟨i, r * 2 + bt - Y, A7, _, c7, Qs.set qq v, rfl, by go_num, (hr7.store hfr hbl6.lt _ _).below (below_drewN (Below.refl _ _) 1), below_drewN (hB7.setCell hGw _) 1, (blk_set hbl7 qq v).drewN 1, by omega, HBD⟩
        case measure => simp [intOf] <;> omega
set_option maxHeartbeats 1600000 in
theorem rdm_ff (h0 : 0 < val ys) (vx vy : Nat) (ux : u64Of xs = (vx, false)) (uy : u64Of ys = (vy, false)) (hvy : True) : Calls Tryz.prog 84 #[.slice A n c, .slice B m d] w (Gives3 w (dg (val xs / val ys)) (dg (val xs % val ys)) 0) := by
  obtain ⟨X, hX⟩ : ∃ X, val xs = X := ⟨_, rfl⟩
  obtain ⟨Y, hY⟩ : ∃ Y, val ys = Y := ⟨_, rfl⟩
  obtain ⟨b0, hb0, hb1, hb2⟩ : ∃ b0, nb xs = b0 ∧ b0 ≤ 32 * n ∧ X < 2 ^ b0 := by
    rw [← hX]
    have := nb_any h.sm
    rw [h.len] at this
    exact ⟨_, rfl, this.1, this.2⟩
  have hYm : Y < pw m := by rw [← hY]; exact rd_lt h2 (Nat.le_refl _)
  rw [hX, hY]
  rw [hY] at h0
  have hmk := fun W => run_mk 22 (.inl rfl) n (n : Int) rfl (by omega) W
  have HUX := hide (fun W (k : Rd W A n c xs) => ruint_calls A n c xs W vx false ux k (by omega))
  have HUY := hide (fun W (k : Rd W B m d ys) => ruint_calls B m d ys W vy false uy k (by omega))
  have HBI := hide (fun W (k : Rd W A n c xs) => rbits_calls A n c xs W b0 hb0 k (by omega))
  have HS := hide (bd_start (Y := Y) n hb2)
  have HX := hide (And.intro hX (And.intro hY (And.intro h0 hYm)))
  clear ux uy hb0 hb2 hX hY h0 hYm
  go_enter Tryz.func84, Tryz.ntmps84
  go_wp2_with fail
  refine (unhide HUX _ h).mono ?_
  rintro e w1 ⟨rfl, b1⟩
  have h_1 := h.below b1
  have k_1 := h2.below b1
  go_wp2_with fail
  refine (unhide HUY _ k_1).mono ?_
  rintro e w2 ⟨rfl, b2⟩
  have h_2 := h_1.below b2
  have k_2 := k_1.below b2
  have B2 := below_then b1 (Nat.le_refl _) b2
  clear h_1 k_1 b1 b2
  go_wp2_with fail
  refine (unhide HBI _ (h_2.below (((Below.refl _ _).alloc (Nat.le_refl _) _).alloc (by simp) _))).mono ?_
  rintro e w3 ⟨rfl, b3⟩
  have B2' := (B2.alloc B2.size (.cells (arr (zs n)) 57)).alloc (by simp; have := B2.size; omega) (.cells #[] 57)
  have B3 := below_then B2' (Nat.le_refl _) b3
  have hQ : Blk w3 w2.heap.size (arr (zs n)) := ((Blk.new w2 (arr (zs n))).alloc _).below b3 (by simp; omega)
  have hGw := B2.size
  clear b3 B2' B2
  generalize w2.heap.size = G at *
  go_wp2_with fail
  go_loopw [12, 13] (fun rv iv wr => BdRel X Y n G G w rv iv wr) (fun _ iv _ => (intOf iv + 1).toNat)
  case atStart => exact ⟨b0, 0, _, 0, _, zs n, rfl, rfl, Rd.empty _ _ _, B3, hQ, hb1, HS.out⟩
  case round =>
    obtain ⟨j, r, R, L, c1, Qs, rfl, rfl, hR, hb, hbl, hj, HI⟩ := hrel
    rcases Nat.eq_zero_or_pos j with hj0 | hj0
    · subst hj0
      have hE := bd_end HI.out
      have hr := blk_rd0 (c := n) (n := n) hbl HI.out.2.1 HI.out.1 (by omega)
      have HM := hide (rmake_calls _ _ _ _ _ hr (by omega))
      rw [hE.1] at HM
      have HL := hide hR.len
      have HE := hide hE.2
      clear hE
      go_wp2_with fail
      refine (unhide HM).mono ?_
      rintro e w5 ⟨A5, c5, rfl, hr5, hb5⟩
      have hR5 := hR.below hb5
      go_wp2
      go_ret3
      exact ⟨A5, c5, R, c1, by rw [← HE.out, HL.out]; rfl, hr5, by rw [← HE.out, HL.out]; exact hR5, below_then hb (Nat.le_refl _) hb5⟩
    · obtain ⟨i, rfl⟩ : ∃ i, j = i + 1 := ⟨j - 1, by omega⟩
      have e : ((i + 1 : Nat) : Int) - 1 = i := by omega
      rw [e]
      clear e
      have hin : i / 32 < n := by omega
      obtain ⟨qq, hqq⟩ : ∃ qq, qq = i / 32 := ⟨_, rfl⟩
      obtain ⟨ss, hss⟩ : ∃ ss, ss = i % 32 := ⟨_, rfl⟩
      have hqi : (i : Int) / 32 = (qq : Int) := by omega
      have hsi : (i : Int) % 32 = (ss : Int) := by omega
      have hs31 : ss < 32 := by omega
      have hrY : r < Y := by rw [HI.out.2.2.1]; exact Nat.mod_lt _ HX.out.2.2.1
      have hLm : L ≤ m := by rw [← hR.len]; exact dg_le (Nat.lt_trans hrY HX.out.2.2.2)
      obtain ⟨b, off, hA, -, hc⟩ := (h.below hb).get (k := qq) (by omega)
      subst hA
      obtain ⟨bt, hbt⟩ : ∃ bt, bt = lim xs qq / 2 ^ ss % 2 := ⟨_, rfl⟩
      have hbt1 : bt < 2 := by omega
      have hbX : bt = X / 2 ^ i % 2 := by rw [hbt, hqq, hss, bit_of h.sm, HX.out.1]
      have hlx := h.sm.lim qq
      have HQ2 := hide (And.intro hqq (And.intro hss (And.intro hbt hbX)))
      clear hqq hss hbt hbX
      go_wp2_with fail
      refine (rshl1 R L c1 r _ hR (by omega)).mono ?_
      rintro e w5 ⟨A5, c5, rfl, hr5, hb5⟩
      have h_w := h.below hb
      have h_5 := h_w.below hb5
      obtain ⟨b', off', hA', -, hc5⟩ := h_5.get (k := qq) (by omega)
      injection hA' with hA'
      injection hA' with hA1 hA2
      subst hA1 hA2
      have hand : bits .and .u32 ((lim xs qq : Int) / 2 ^ ss) 1 = (bt : Int) := by
        have e1 : (lim xs qq : Int) / 2 ^ ss = ((lim xs qq / 2 ^ ss : Nat) : Int) := by simp
        rw [e1, HQ2.out.2.2.1]
        have := u32_and_nat (lim xs qq / 2 ^ ss) 1 (Nat.lt_of_le_of_lt (Nat.div_le_self _ _) hlx) (by omega)
        rw [Nat.and_one_is_mod] at this
        exact this
      have hbl5 := hbl.below hb5 hbl.lt
      have hB5 := below_then hb (Nat.le_refl _) hb5
      clear h_w
      go_wp2_with fail
      refine (radd_at _ _ _ _ _ _ _ _ _ (r * 2) bt (r * 2 + bt) (val_dg _) (by simp [val]) rfl (hr5.below ((Below.refl _ _).alloc (Nat.le_refl _) _)) (rd_one _ bt (by omega)) (Nat.le_trans (dg_le (k := m + 1) (by rw [pw]; have := HX.out.2.2.2; omega)) (by omega)) (by omega)).mono ?_
      rintro e w6 ⟨A6, c6, rfl, hr6, hb6⟩
      have hbl6 := (hbl5.alloc _).below hb6 (hbl5.alloc _).lt
      have hB6 := below_then (hB5.alloc hB5.size _) (Nat.le_refl _) hb6
      clear hb6 hr5 hb5 hbl5 hc5 hand h_5
      have hl6 : (dg (r * 2 + bt)).length ≤ m + 1 := dg_le (k := m + 1) (by rw [pw]; have := HX.out.2.2.2; omega)
      have k_6 := h2.below hB6
      by_cases hlt : r * 2 + bt < Y
      · obtain ⟨rr, hrr, hr0⟩ : ∃ rr, sg (val (dg (r * 2 + bt))) (val ys) = rr ∧ rr < 0 := ⟨_, rfl, by rw [val_dg, HX.out.2.1, sg_lt hlt]; omega⟩
        have HRR := hide hrr
        have HBD := hide (bd_low HX.out.2.2.1 HQ2.out.2.2.2 HI.out hlt)
        clear hrr hlt
        go_wp2_with fail
        refine (rcmp_at _ _ _ _ _ _ _ _ _ rr HRR.out hr6 k_6 (by omega) (by omega)).mono ?_
        rintro e w' ⟨rfl, rfl⟩
        go_wp2
        go_roundw
        case rel => exact ⟨i, r * 2 + bt, A6, _, c6, Qs, rfl, by go_num, hr6, hB6, hbl6, by omega, HBD⟩
        case measure => simp [intOf] <;> omega
      · obtain ⟨rr, hrr, hr0⟩ : ∃ rr, sg (val (dg (r * 2 + bt))) (val ys) = rr ∧ 0 ≤ rr := ⟨_, rfl, by rw [val_dg, HX.out.2.1]; unfold sg; rw [if_neg (by omega)]; split <;> omega⟩
        have HRR := hide hrr
        obtain ⟨hbd, hor, hvb⟩ := bd_high HX.out.2.2.1 HQ2.out.2.2.2 HI.out (by omega) hin
        rw [← HQ2.out.1, ← HQ2.out.2.1] at hbd hor hvb
        have hSub := rsub_new A6 B _ m c6 d _ ys w6 hr6 k_6 (by omega) (by omega) (by rw [val_dg, HX.out.2.1]; omega)
        rw [val_dg, HX.out.2.1] at hSub
        have HSB := hide hSub
        obtain ⟨v, hv⟩ : ∃ v, v = lim Qs qq + 2 ^ ss := ⟨_, rfl⟩
        rw [← hv] at hbd hor hvb
        have HBD := hide hbd
        have h2s : (2 : Nat) ^ ss < 4294967296 := by omega
        have HORP := hide (show bits .or .u32 (lim Qs qq : Int) (2 ^ ss % 4294967296) = (v : Int) by
          have e1 : (2 : Int) ^ ss = ((2 ^ ss : Nat) : Int) := by simp
          have e2 : ((2 ^ ss : Nat) : Int) % 4294967296 = ((2 ^ ss : Nat) : Int) := by
            generalize (2 ^ ss : Nat) = z at h2s
            omega
          rw [e1, e2, u32_or_nat _ _ (HI.out.2.1.lim qq) h2s, hor])
        clear h2s
        have hlq := HI.out.2.1.lim qq
        clear hrr hlt hbd hor hSub hv
        go_wp2_with fail
        refine (rcmp_at _ _ _ _ _ _ _ _ _ rr HRR.out hr6 k_6 (by omega) (by omega)).mono ?_
        rintro e w' ⟨rfl, rfl⟩
        go_wp2_with fail
        refine (unhide HSB).mono ?_
        rintro e w7 ⟨A7, c7, rfl, hr7, hb7, hfr⟩
        have hbl7 := hbl6.below hb7 hbl6.lt
        have hB7 := below_then hB6 (Nat.le_refl _) hb7
        have hcq : w7.cell? ⟨G, qq, none⟩ = some (.int .u32 (lim Qs qq : Nat)) := blk_cell hbl7 (by rw [HI.out.1]; omega)
        have hfq := hbl7.frozen qq
        go_wp2_with fail
        go_region
        go_wp2
        go_roundw
        case rel =>
          rw [HORP.out]
          exact ⟨i, r * 2 + bt - Y, A7, _, c7, Qs.set qq v, rfl, by go_num, (hr7.store hfr hbl6.lt _ _).below (below_drewN (Below.refl _ _) 1), below_drewN (hB7.setCell hGw _) 1, (blk_set hbl7 qq v).drewN 1, by omega, HBD⟩
        case measure => simp [intOf] <;> omega
set_option maxHeartbeats 1600000 in
theorem rdm_tf (h0 : 0 < val ys) (vx vy : Nat) (ux : u64Of xs = (vx, true)) (uy : u64Of ys = (vy, false)) (hvy : True) : Calls Tryz.prog 84 #[.slice A n c, .slice B m d] w (Gives3 w (dg (val xs / val ys)) (dg (val xs % val ys)) 0) := by
  obtain ⟨X, hX⟩ : ∃ X, val xs = X := ⟨_, rfl⟩
  obtain ⟨Y, hY⟩ : ∃ Y, val ys = Y := ⟨_, rfl⟩
  obtain ⟨b0, hb0, hb1, hb2⟩ : ∃ b0, nb xs = b0 ∧ b0 ≤ 32 * n ∧ X < 2 ^ b0 := by
    rw [← hX]
    have := nb_any h.sm
    rw [h.len] at this
    exact ⟨_, rfl, this.1, this.2⟩
  have hYm : Y < pw m := by rw [← hY]; exact rd_lt h2 (Nat.le_refl _)
  rw [hX, hY]
  rw [hY] at h0
  have hmk := fun W => run_mk 22 (.inl rfl) n (n : Int) rfl (by omega) W
  have HUX := hide (fun W (k : Rd W A n c xs) => ruint_calls A n c xs W vx true ux k (by omega))
  have HUY := hide (fun W (k : Rd W B m d ys) => ruint_calls B m d ys W vy false uy k (by omega))
  have HBI := hide (fun W (k : Rd W A n c xs) => rbits_calls A n c xs W b0 hb0 k (by omega))
  have HS := hide (bd_start (Y := Y) n hb2)
  have HX := hide (And.intro hX (And.intro hY (And.intro h0 hYm)))
  clear ux uy hb0 hb2 hX hY h0 hYm
  go_enter Tryz.func84, Tryz.ntmps84
  go_wp2_with fail
  refine (unhide HUX _ h).mono ?_
  rintro e w1 ⟨rfl, b1⟩
  have h_1 := h.below b1
  have k_1 := h2.below b1
  go_wp2_with fail
  refine (unhide HUY _ k_1).mono ?_
  rintro e w2 ⟨rfl, b2⟩
  have h_2 := h_1.below b2
  have k_2 := k_1.below b2
  have B2 := below_then b1 (Nat.le_refl _) b2
  clear h_1 k_1 b1 b2
  go_wp2_with fail
  refine (unhide HBI _ (h_2.below (((Below.refl _ _).alloc (Nat.le_refl _) _).alloc (by simp) _))).mono ?_
  rintro e w3 ⟨rfl, b3⟩
  have B2' := (B2.alloc B2.size (.cells (arr (zs n)) 57)).alloc (by simp; have := B2.size; omega) (.cells #[] 57)
  have B3 := below_then B2' (Nat.le_refl _) b3
  have hQ : Blk w3 w2.heap.size (arr (zs n)) := ((Blk.new w2 (arr (zs n))).alloc _).below b3 (by simp; omega)
  have hGw := B2.size
  clear b3 B2' B2
  generalize w2.heap.size = G at *
  go_wp2_with fail
  go_loopw [12, 13] (fun rv iv wr => BdRel X Y n G G w rv iv wr) (fun _ iv _ => (intOf iv + 1).toNat)
  case atStart => exact ⟨b0, 0, _, 0, _, zs n, rfl, rfl, Rd.empty _ _ _, B3, hQ, hb1, HS.out⟩
  case round =>
    obtain ⟨j, r, R, L, c1, Qs, rfl, rfl, hR, hb, hbl, hj, HI⟩ := hrel
    rcases Nat.eq_zero_or_pos j with hj0 | hj0
    · subst hj0
      have hE := bd_end HI.out
      have hr := blk_rd0 (c := n) (n := n) hbl HI.out.2.1 HI.out.1 (by omega)
      have HM := hide (rmake_calls _ _ _ _ _ hr (by omega))
      rw [hE.1] at HM
      have HL := hide hR.len
      have HE := hide hE.2
      clear hE
      go_wp2_with fail
      refine (unhide HM).mono ?_
      rintro e w5 ⟨A5, c5, rfl, hr5, hb5⟩
      have hR5 := hR.below hb5
      go_wp2
      go_ret3
      exact ⟨A5, c5, R, c1, by rw [← HE.out, HL.out]; rfl, hr5, by rw [← HE.out, HL.out]; exact hR5, below_then hb (Nat.le_refl _) hb5⟩
    · obtain ⟨i, rfl⟩ : ∃ i, j = i + 1 := ⟨j - 1, by omega⟩
      have e : ((i + 1 : Nat) : Int) - 1 = i := by omega
      rw [e]
      clear e
      have hin : i / 32 < n := by omega
      obtain ⟨qq, hqq⟩ : ∃ qq, qq = i / 32 := ⟨_, rfl⟩
      obtain ⟨ss, hss⟩ : ∃ ss, ss = i % 32 := ⟨_, rfl⟩
      have hqi : (i : Int) / 32 = (qq : Int) := by omega
      have hsi : (i : Int) % 32 = (ss : Int) := by omega
      have hs31 : ss < 32 := by omega
      have hrY : r < Y := by rw [HI.out.2.2.1]; exact Nat.mod_lt _ HX.out.2.2.1
      have hLm : L ≤ m := by rw [← hR.len]; exact dg_le (Nat.lt_trans hrY HX.out.2.2.2)
      obtain ⟨b, off, hA, -, hc⟩ := (h.below hb).get (k := qq) (by omega)
      subst hA
      obtain ⟨bt, hbt⟩ : ∃ bt, bt = lim xs qq / 2 ^ ss % 2 := ⟨_, rfl⟩
      have hbt1 : bt < 2 := by omega
      have hbX : bt = X / 2 ^ i % 2 := by rw [hbt, hqq, hss, bit_of h.sm, HX.out.1]
      have hlx := h.sm.lim qq
      have HQ2 := hide (And.intro hqq (And.intro hss (And.intro hbt hbX)))
      clear hqq hss hbt hbX
      go_wp2_with fail
      refine (rshl1 R L c1 r _ hR (by omega)).mono ?_
      rintro e w5 ⟨A5, c5, rfl, hr5, hb5⟩
      have h_w := h.below hb
      have h_5 := h_w.below hb5
      obtain ⟨b', off', hA', -, hc5⟩ := h_5.get (k := qq) (by omega)
      injection hA' with hA'
      injection hA' with hA1 hA2
      subst hA1 hA2
      have hand : bits .and .u32 ((lim xs qq : Int) / 2 ^ ss) 1 = (bt : Int) := by
        have e1 : (lim xs qq : Int) / 2 ^ ss = ((lim xs qq / 2 ^ ss : Nat) : Int) := by simp
        rw [e1, HQ2.out.2.2.1]
        have := u32_and_nat (lim xs qq / 2 ^ ss) 1 (Nat.lt_of_le_of_lt (Nat.div_le_self _ _) hlx) (by omega)
        rw [Nat.and_one_is_mod] at this
        exact this
      have hbl5 := hbl.below hb5 hbl.lt
      have hB5 := below_then hb (Nat.le_refl _) hb5
      clear h_w
      go_wp2_with fail
      refine (radd_at _ _ _ _ _ _ _ _ _ (r * 2) bt (r * 2 + bt) (val_dg _) (by simp [val]) rfl (hr5.below ((Below.refl _ _).alloc (Nat.le_refl _) _)) (rd_one _ bt (by omega)) (Nat.le_trans (dg_le (k := m + 1) (by rw [pw]; have := HX.out.2.2.2; omega)) (by omega)) (by omega)).mono ?_
      rintro e w6 ⟨A6, c6, rfl, hr6, hb6⟩
      have hbl6 := (hbl5.alloc _).below hb6 (hbl5.alloc _).lt
      have hB6 := below_then (hB5.alloc hB5.size _) (Nat.le_refl _) hb6
      clear hb6 hr5 hb5 hbl5 hc5 hand h_5
      have hl6 : (dg (r * 2 + bt)).length ≤ m + 1 := dg_le (k := m + 1) (by rw [pw]; have := HX.out.2.2.2; omega)
      have k_6 := h2.below hB6
      by_cases hlt : r * 2 + bt < Y
      · obtain ⟨rr, hrr, hr0⟩ : ∃ rr, sg (val (dg (r * 2 + bt))) (val ys) = rr ∧ rr < 0 := ⟨_, rfl, by rw [val_dg, HX.out.2.1, sg_lt hlt]; omega⟩
        have HRR := hide hrr
        have HBD := hide (bd_low HX.out.2.2.1 HQ2.out.2.2.2 HI.out hlt)
        clear hrr hlt
        go_wp2_with fail
        refine (rcmp_at _ _ _ _ _ _ _ _ _ rr HRR.out hr6 k_6 (by omega) (by omega)).mono ?_
        rintro e w' ⟨rfl, rfl⟩
        go_wp2
        go_roundw
        case rel => exact ⟨i, r * 2 + bt, A6, _, c6, Qs, rfl, by go_num, hr6, hB6, hbl6, by omega, HBD⟩
        case measure => simp [intOf] <;> omega
      · obtain ⟨rr, hrr, hr0⟩ : ∃ rr, sg (val (dg (r * 2 + bt))) (val ys) = rr ∧ 0 ≤ rr := ⟨_, rfl, by rw [val_dg, HX.out.2.1]; unfold sg; rw [if_neg (by omega)]; split <;> omega⟩
        have HRR := hide hrr
        obtain ⟨hbd, hor, hvb⟩ := bd_high HX.out.2.2.1 HQ2.out.2.2.2 HI.out (by omega) hin
        rw [← HQ2.out.1, ← HQ2.out.2.1] at hbd hor hvb
        have hSub := rsub_new A6 B _ m c6 d _ ys w6 hr6 k_6 (by omega) (by omega) (by rw [val_dg, HX.out.2.1]; omega)
        rw [val_dg, HX.out.2.1] at hSub
        have HSB := hide hSub
        obtain ⟨v, hv⟩ : ∃ v, v = lim Qs qq + 2 ^ ss := ⟨_, rfl⟩
        rw [← hv] at hbd hor hvb
        have HBD := hide hbd
        have h2s : (2 : Nat) ^ ss < 4294967296 := by omega
        have HORP := hide (show bits .or .u32 (lim Qs qq : Int) (2 ^ ss % 4294967296) = (v : Int) by
          have e1 : (2 : Int) ^ ss = ((2 ^ ss : Nat) : Int) := by simp
          have e2 : ((2 ^ ss : Nat) : Int) % 4294967296 = ((2 ^ ss : Nat) : Int) := by
            generalize (2 ^ ss : Nat) = z at h2s
            omega
          rw [e1, e2, u32_or_nat _ _ (HI.out.2.1.lim qq) h2s, hor])
        clear h2s
        have hlq := HI.out.2.1.lim qq
        clear hrr hlt hbd hor hSub hv
        go_wp2_with fail
        refine (rcmp_at _ _ _ _ _ _ _ _ _ rr HRR.out hr6 k_6 (by omega) (by omega)).mono ?_
        rintro e w' ⟨rfl, rfl⟩
        go_wp2_with fail
        refine (unhide HSB).mono ?_
        rintro e w7 ⟨A7, c7, rfl, hr7, hb7, hfr⟩
        have hbl7 := hbl6.below hb7 hbl6.lt
        have hB7 := below_then hB6 (Nat.le_refl _) hb7
        have hcq : w7.cell? ⟨G, qq, none⟩ = some (.int .u32 (lim Qs qq : Nat)) := blk_cell hbl7 (by rw [HI.out.1]; omega)
        have hfq := hbl7.frozen qq
        go_wp2_with fail
        go_region
        go_wp2
        go_roundw
        case rel =>
          rw [HORP.out]
          exact ⟨i, r * 2 + bt - Y, A7, _, c7, Qs.set qq v, rfl, by go_num, (hr7.store hfr hbl6.lt _ _).below (below_drewN (Below.refl _ _) 1), below_drewN (hB7.setCell hGw _) 1, (blk_set hbl7 qq v).drewN 1, by omega, HBD⟩
        case measure => simp [intOf] <;> omega
theorem rdm_small (h0 : 0 < val ys) (hx2 : tlen xs ≤ 2) (hy2 : tlen ys ≤ 2) : Calls Tryz.prog 84 #[.slice A n c, .slice B m d] w (Gives3 w (dg (val xs / val ys)) (dg (val xs % val ys)) 0) := by
  have ux : u64Of xs = (val xs, true) := if_pos hx2
  have uy : u64Of ys = (val ys, true) := if_pos hy2
  have hX := u64_two (h.sm.take (tlen xs)) (by rw [List.length_take]; omega)
  rw [val_trim h.sm] at hX
  generalize val xs = X at *
  generalize val ys = Y at *
  have hY0 : ((Y : Int) == 0) = false := by simp; omega
  have hq1 : X / Y ≤ 18446744073709551615 := Nat.le_trans (Nat.div_le_self _ _) hX
  have HQ := hide (show IntKind.u64.wrap ((X : Int) / (Y : Int)) = ((X / Y : Nat) : Int) by
    have e : (X : Int) / (Y : Int) = ((X / Y : Nat) : Int) := by simp
    rw [e]
    generalize X / Y = Z at hq1 ⊢
    exact IntWalk.u64_in _ ⟨by omega, by omega⟩)
  have HQ' := hide (show (X : Int) / (Y : Int) = ((X / Y : Nat) : Int) by simp)
  have HR' := hide (show (X : Int) % (Y : Int) = ((X % Y : Nat) : Int) by simp)
  have HR := hide (show (X : Int).tmod (Y : Int) = ((X % Y : Nat) : Int) by
    rw [Int.tmod_eq_emod_of_nonneg (by omega)]; simp)
  have hq2 : X % Y ≤ 18446744073709551615 := Nat.le_trans (Nat.mod_le _ _) hX
  have H1 := hide hq1
  have H2 := hide hq2
  have HUX := hide (fun W (k : Rd W A n c xs) => ruint_calls A n c xs W X true ux k (by omega))
  have HUY := hide (fun W (k : Rd W B m d ys) => ruint_calls B m d ys W Y true uy k (by omega))
  clear hq1 hq2 ux uy hx2 hy2
  go_enter Tryz.func84, Tryz.ntmps84
  go_wp2_with fail
  refine (unhide HUX _ h).mono ?_
  rintro e w1 ⟨rfl, b1⟩
  have k_1 := h2.below b1
  go_wp2_with fail
  refine (unhide HUY _ k_1).mono ?_
  rintro e w2 ⟨rfl, b2⟩
  have B2 := below_then b1 (Nat.le_refl _) b2
  clear b1 b2 k_1 h h2 HUX HUY
  go_wp2_with fail
  go_region_with (first
      | (go_at_call 67; (with_reducible refine (rof_int (IntKind.u64.wrap ((X : Int) / (Y : Int))) (X / Y) _ HQ.out H1.out).mono ?_); rintro e w1 ⟨A4, c4, rfl, hr4, hb4⟩)
      | (go_at_call 67; (with_reducible refine (rof_int ((X : Int).tmod (Y : Int)) (X % Y) _ HR.out H2.out).mono ?_); rintro e w2 ⟨A5, c5, rfl, hr5, hb5⟩)
      | (go_at_call 67; (with_reducible refine (rof_int ((X : Int) / (Y : Int)) (X / Y) _ HQ'.out H1.out).mono ?_); rintro e w1 ⟨A4, c4, rfl, hr4, hb4⟩)
      | (go_at_call 67; (with_reducible refine (rof_int ((X : Int) % (Y : Int)) (X % Y) _ HR'.out H2.out).mono ?_); rintro e w2 ⟨A5, c5, rfl, hr5, hb5⟩))
  all_goals go_wp2
  all_goals go_ret3
  all_goals exact ⟨A4, c4, A5, c5, rfl, hr4.below hb5, hr5, below_then (below_then (B2.drew) (Nat.le_refl _) hb4) (Nat.le_refl _) hb5⟩
theorem rdivmod_calls (h0 : 0 < val ys) : Calls Tryz.prog 84 #[.slice A n c, .slice B m d] w (Gives3 w (dg (val xs / val ys)) (dg (val xs % val ys)) 0) := by
  by_cases hx : tlen xs ≤ 2
  · by_cases hy : tlen ys ≤ 2
    · exact rdm_small A B n m c d xs ys w h h2 hn hm h0 hx hy
    · exact rdm_tf A B n m c d xs ys w h h2 hn hm h0 _ _ (if_pos hx) (if_neg hy) trivial
  · by_cases hy : tlen ys ≤ 2
    · exact rdm_ft A B n m c d xs ys w h h2 hn hm h0 _ _ (if_neg hx) (if_pos hy) (by simp; omega)
    · exact rdm_ff A B n m c d xs ys w h h2 hn hm h0 _ _ (if_neg hx) (if_neg hy) trivial
end
end Go.Proofs.YtnddhohjfjlaiaaGreatDoor

/-
  The specification's Gcd.
-/
namespace Go.Proofs.YtnddhohjfjlaiaaGreatDoor
open Go.RowKit
set_option linter.unusedVariables false
set_option linter.unusedSimpArgs false

def RgRel (G : Nat) (w : World) (av bv : Value) (wr : World) : Prop :=
  ∃ (x y : Nat) (A1 : Option Addr) (L c1 : Nat) (A2 : Option Addr) (M c2 : Nat), av = .slice A1 L c1 ∧ bv = .slice A2 M c2 ∧ Rd wr A1 L c1 (dg x) ∧ Rd wr A2 M c2 (dg y) ∧ Below w.heap.size w wr ∧ L ≤ 16384 ∧ M ≤ 16384 ∧ Nat.gcd x y = G
theorem rgcd_calls (A B : Option Addr) (n m c d : Nat) (xs ys : List Nat) (w : World) (X Y : Nat) (h : Rd w A n c xs) (h2 : Rd w B m d ys) (hn : n ≤ 16384) (hm : m ≤ 16384) (hX : val xs = X) (hY : val ys = Y) :
    Calls Tryz.prog 87 #[.slice A n c, .slice B m d] w (Gives w (dg (Nat.gcd X Y))) := by
  obtain ⟨L, hL⟩ : ∃ L, (dg X).length = L := ⟨_, rfl⟩
  obtain ⟨M, hM⟩ : ∃ M, (dg Y).length = M := ⟨_, rfl⟩
  have hLn : L ≤ 16384 := by rw [← hL, ← hX, len_dg_val h.sm]; have := tlen_le xs; have := h.len; omega
  have hMn : M ≤ 16384 := by rw [← hM, ← hY, len_dg_val h2.sm]; have := tlen_le ys; have := h2.len; omega
  have HM1 := hide (fun (W : World) (hb : Rd W A n c xs) => (by
    have := rmake_len A n c xs W L (by rw [hX]; exact hL) hb (by omega)
    rwa [hX] at this : Calls Tryz.prog 82 #[.slice A n c] W fun e w' => ∃ A1 c1, e = .returned (.slice A1 L c1) ∧ Rd w' A1 L c1 (dg X) ∧ Below W.heap.size W w'))
  have HM2 := hide (fun (W : World) (hb : Rd W B m d ys) => (by
    have := rmake_len B m d ys W M (by rw [hY]; exact hM) hb (by omega)
    rwa [hY] at this : Calls Tryz.prog 82 #[.slice B m d] W fun e w' => ∃ A1 c1, e = .returned (.slice A1 M c1) ∧ Rd w' A1 M c1 (dg Y) ∧ Below W.heap.size W w'))
  obtain ⟨G, hG⟩ : ∃ G, G = Nat.gcd X Y := ⟨_, rfl⟩
  rw [← hG]
  have HG := hide hG
  clear hL hM hX hY hG
  go_enter Tryz.func87, Tryz.ntmps87
  go_wp2_with fail
  refine (unhide HM1 _ h).mono ?_
  rintro e w1 ⟨A1, c1, rfl, hr1, hb1⟩
  have h2w := h2.below hb1
  go_wp2_with fail
  refine (unhide HM2 _ h2w).mono ?_
  rintro e w2 ⟨A2, c2, rfl, hr2, hb2⟩
  have hr1' := hr1.below hb2
  go_wp2_with fail
  go_loopw [0, 1] (fun av bv wr => RgRel G w av bv wr) (fun _ bv wr => vOf wr bv)
  case atStart => exact ⟨X, Y, A1, L, c1, A2, M, c2, rfl, rfl, hr1', hr2, below_then hb1 (Nat.le_refl _) hb2, hLn, hMn, HG.out.symm⟩
  case round =>
    obtain ⟨x, y, B1, L1, d1, B2, M1, d2, rfl, rfl, k1, k2, hb, hL1, hM1, hg⟩ := hrel
    have hl1 := k1.len
    have hl2 := k2.len
    by_cases hM0 : M1 = 0
    · subst hM0
      have hy0 : y = 0 := dg_nil_iff.1 (List.eq_nil_of_length_eq_zero hl2)
      subst hy0
      rw [Nat.gcd_zero_right] at hg
      subst hg
      have HK := hide hl1
      clear hl1 hl2
      go_wp2
      go_ret
      exact ⟨B1, d1, by rw [HK.out]; rfl, by rw [HK.out]; exact k1, hb⟩
    · have hy0 : 0 < y := by
        rcases Nat.eq_zero_or_pos y with h0 | h0
        · rw [h0, dg_zero] at hl2; simp at hl2; omega
        · exact h0
      have HDM := hide (by
        have := rdivmod_calls B1 B2 L1 M1 d1 d2 _ _ wr k1 k2 hL1 hM1 (by rw [val_dg]; exact hy0)
        rwa [val_dg, val_dg] at this : Calls Tryz.prog 84 #[.slice B1 L1 d1, .slice B2 M1 d2] wr (Gives3 wr (dg (x / y)) (dg (x % y)) 0))
      have HK := hide (And.intro hg (And.intro hl2 hy0))
      clear hg hl1 hl2 hy0
      go_wp2_with fail
      refine (unhide HDM).mono ?_
      rintro e w3 ⟨A3, c3, A4, c4, rfl, hr3, hr4, hb4⟩
      have k3 := k2.below hb4
      go_wp2
      go_roundw
      case rel => exact ⟨y, x % y, B2, M1, d2, A4, _, c4, rfl, rfl, k3, hr4, below_then hb (Nat.le_refl _) hb4, hM1, Nat.le_trans (len_dg_le (Nat.lt_trans (Nat.mod_lt _ HK.out.2.2) (lt_of_len (Nat.le_of_eq HK.out.2.1)))) hM1, gcd_step.trans HK.out.1⟩
      case measure =>
        show vOf _ (.slice A4 _ c4) < vOf _ (.slice B2 M1 d2)
        rw [vOf_eq hr4, vOf_eq k2, val_dg, val_dg]
        exact Nat.mod_lt _ HK.out.2.2
end Go.Proofs.YtnddhohjfjlaiaaGreatDoor
