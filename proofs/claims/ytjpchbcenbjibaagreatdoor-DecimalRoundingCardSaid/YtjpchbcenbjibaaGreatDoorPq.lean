/-
  DivMod by one limb: the quotient lies in memory of limbs.
-/
import Derived.Test.YtjpchbcenbjibaaGreatDoorPb
import Derived.Test.YtjpchbcenbjibaaGreatDoorQ0
namespace Go.Proofs.YtjpchbcenbjibaaGreatDoor
open Go.RowKit
set_option linter.unusedVariables false
set_option linter.unusedSimpArgs false

/-- The slice lies in memory of limbs. -/
def Ty (w : World) (A : Option Addr) (n : Nat) : Prop := 0 < n → ∀ ad, A = some ad → ∃ cs fr, w.heap[ad.block]? = some (.cells cs 71 fr)
/-- .. or below block B. -/
def Tq (w : World) (B : Nat) (A : Option Addr) (n : Nat) : Prop := 0 < n → ∀ ad, A = some ad → ad.block < B ∨ ∃ cs fr, w.heap[ad.block]? = some (.cells cs 71 fr)
theorem Ty.tq {w : World} {A : Option Addr} {n : Nat} (h : Ty w A n) (B : Nat) : Tq w B A n := fun hn ad had => .inr (h hn ad had)
theorem Ty.below {w w' : World} {A : Option Addr} {n : Nat} (h : Ty w A n) (hb : Below w.heap.size w w') : Ty w' A n := fun hn ad had => by
  obtain ⟨cs, fr, hh⟩ := h hn ad had
  exact ⟨cs, fr, (hb.block _ (Array.getElem?_eq_some_iff.1 hh).1).trans hh⟩
theorem Tq.below {w w' : World} {B : Nat} {A : Option Addr} {n : Nat} (h : Tq w B A n) (hb : Below w.heap.size w w') : Tq w' B A n := fun hn ad had => by
  rcases h hn ad had with h1 | ⟨cs, fr, hh⟩
  · exact .inl h1
  · exact .inr ⟨cs, fr, (hb.block _ (Array.getElem?_eq_some_iff.1 hh).1).trans hh⟩
theorem Tq.kt {w w' : World} {B : Nat} {A : Option Addr} {n : Nat} (h : Tq w B A n) (hk : Kt B w w') : Tq w' B A n := fun hn ad had => by
  rcases h hn ad had with h1 | ⟨cs, fr, hh⟩
  · exact .inl h1
  · exact .inr ⟨cs, fr, hk.2 _ _ _ hh⟩
theorem Rd.kt {w w' : World} {B : Nat} {A : Option Addr} {n c : Nat} {xs : List Nat} (h : Rd w A n c xs) (ht : Tq w B A n) (hk : Kt B w w') : Rd w' A n c xs :=
  ⟨h.len, h.sm, h.cap, fun hn => by
    obtain ⟨b, off, hA, hb, hc⟩ := h.at_ hn
    have e : w'.heap[b]? = w.heap[b]? := by
      rcases ht hn _ hA with h1 | ⟨cs, fr, hh⟩
      · exact hk.1.block b h1
      · exact (hk.2 _ _ _ hh).trans hh.symm
    exact ⟨b, off, hA, Nat.lt_of_lt_of_le hb hk.1.size, fun k hkn => (World.cell?_of_block (w := w) (a := ⟨b, off + k, none⟩) e).trans (hc k hkn)⟩⟩
theorem Ny.kt {w w' : World} {B : Nat} {A : Option Addr} {n c k X : Nat} (h : Ny w A n c k X) (ht : Tq w B A n) (hk : Kt B w w') : Ny w' A n c k X := ⟨h.1, h.2.kt ht hk⟩
theorem Tq.drew {w : World} {B : Nat} {A : Option Addr} {n : Nat} (h : Tq w B A n) : Tq w.drew B A n := h
/-- Slices of limbs that lie in memory of limbs. -/
def GivesT (w : World) (xs : List Nat) (e : Ending) (w' : World) : Prop := ∃ A c, e = .returned (.slice A xs.length c) ∧ Rd w' A xs.length c xs ∧ Below w.heap.size w w' ∧ Ty w' A xs.length
theorem gives_trimT {w w' : World} {S : List Nat} {A : Option Addr} {c N : Nat} (hs : Sm S) (hv : val S = N) (hr : Rd w' A (tlen S) c (S.take (tlen S))) (hb : Below w.heap.size w w') (ht : Ty w' A (tlen S)) :
    GivesT w (dg N) (.returned (.slice A (tlen S) c)) w' := by
  have h1 := len_dg_val hs
  have h2 := dg_val hs
  rw [hv] at h1 h2
  exact ⟨A, c, by rw [h1], by rw [h1, h2]; exact hr, hb, by rw [h1]; exact ht⟩
theorem of_callsT (x : Nat) (w : World) (hx : x ≤ 18446744073709551615) :
    Calls Tryz.prog 49 #[.int .u64 (x : Int)] w (GivesT w (dg x)) := by
  have hsm : Sm [x % 4294967296, x / 4294967296] := (Sm.nil.cons (by omega)).cons (by omega)
  have hv : val [x % 4294967296, x / 4294967296] = x := by simp [val]; omega
  have hr := blk_rd0 (n := 2) (c := 2) (w := w.alloc (.cells #[.int .u32 ((x : Int) % 4294967296), .int .u32 ((x : Int) / 4294967296)] 71)) (g := w.heap.size) (xs := [x % 4294967296, x / 4294967296])
    (Blk.new w _) hsm rfl (Nat.le_refl _)
  have HV := hide hv
  clear hv
  go_enter Tryz.func49, Tryz.ntmps49
  go_wp2_with (go_at_call 50; refine (trim_calls _ _ _ _ _ hr (by omega)).mono ?_; rintro e w' ⟨A1, c1, rfl, rfl, hr3, hA⟩)
  go_ret
  exact gives_trimT hsm HV.out hr3 ((Below.refl _ _).alloc (Nat.le_refl _) _) (fun hn ad had => by rw [hA hn] at had; injection had with had; subst had; exact ⟨_, _, heap_alloc_new w _⟩)
theorem of_intT (i : Int) (k : Nat) (w : World) (hi : i = (k : Int)) (hk : k ≤ 18446744073709551615) : Calls Tryz.prog 49 #[.int .u64 i] w (GivesT w (dg k)) := by
  subst hi
  exact of_callsT k w hk
def GivesUT (w : World) (xs : List Nat) (r : Nat) (e : Ending) (w' : World) : Prop :=
  ∃ A c, e = .returned (.tuple #[.slice A xs.length c, .int .u64 (r : Int)]) ∧ Rd w' A xs.length c xs ∧ Below w.heap.size w w' ∧ Ty w' A xs.length
theorem dbl_callsT (A : Option Addr) (n c : Nat) (xs : List Nat) (w : World) (b : Nat) (h : Rd w A n c xs) (hn : n ≤ 1048576) (hb0 : 0 < b) (hbB : b < 4294967296) :
    Calls Tryz.prog 78 #[.slice A n c, .int .u64 (b : Int)] w (GivesUT w (dg (val xs / b)) (val xs % b)) := by
  have hmk := fun W => run_mk 23 (.inr rfl) n (n : Int) rfl (by omega) W
  have hbn : ((b : Int) == 0) = false := by simp; omega
  have HL := hide h.len
  go_enter Tryz.func78, Tryz.ntmps78
  go_wp2
  go_loopw [7, 8] (fun rv i wr => ∃ (j r : Nat) (Qs : List Nat), j ≤ n ∧ i = .int .i64 ((j : Int) - 1) ∧ rv = .int .u64 r ∧ r < b ∧ Below w.heap.size w wr ∧ Blk wr w.heap.size (arr Qs) ∧ Hid (Db Qs xs b r j)) (fun _ i _ => (intOf i + 1).toNat)
  case atStart =>
    exact ⟨n, 0, zs n, Nat.le_refl _, rfl, rfl, hb0, (Below.refl _ _).alloc (Nat.le_refl _) _, Blk.new _ _, ⟨by rw [zs_len, HL.out], zs_sm _, hb0, by
      rw [List.drop_of_length_le (by rw [HL.out]; exact Nat.le_refl _), List.drop_of_length_le (by rw [zs_len]; exact Nat.le_refl _)]; simp [val]⟩⟩
  case round =>
    obtain ⟨j, r, Qs, hj, rfl, rfl, hr, hb, hbl, HI⟩ := hrel
    by_cases h0 : j = 0
    · subst h0
      have hlq := HI.out.lenQ.trans HL.out
      have hrq := blk_rd0 (c := n) (n := n) hbl HI.out.smQ hlq (by omega)
      have hw := HI.out.whole
      have hq : val Qs = val xs / b ∧ val xs % b = r := by
        rw [List.drop_zero, List.drop_zero] at hw
        rw [hw]
        exact ⟨by rw [Nat.mul_add_div hb0, Nat.div_eq_of_lt hr, Nat.add_zero], by rw [Nat.mul_add_mod, Nat.mod_eq_of_lt hr]⟩
      have hlq := len_dg_val HI.out.smQ
      have hdq := dg_val HI.out.smQ
      rw [hq.1] at hlq hdq
      have htr := trim_calls _ _ _ _ wr hrq (by omega)
      rw [← hdq, ← hlq] at htr
      have HTR := hide htr
      have HQ := hide hq.2
      clear htr hlq hdq hw hq
      go_wp2_with fail
      refine (unhide HTR).mono ?_
      rintro e w6 ⟨A6, c6, rfl, rfl, hr6, hA6⟩
      go_wp2
      go_ret2
      exact ⟨A6, c6, by rw [HQ.out]; rfl, hr6, hb, fun hn ad had => by rw [hA6 hn] at had; injection had with had; subst had; exact ⟨_, _, hbl⟩⟩
    · obtain ⟨i, rfl⟩ : ∃ i, j = i + 1 := ⟨j - 1, by omega⟩
      have e : ((i + 1 : Nat) : Int) - 1 = i := by omega
      rw [e]
      clear e
      have hx := h.sm.lim i
      have hst := db_step hbB (by rw [HL.out]; omega) hx HI.out
      have hz := or_lo hx (show r < 4294967296 by omega)
      obtain ⟨z, hzz⟩ : ∃ z, z = lim xs i + 4294967296 * r := ⟨_, rfl⟩
      rw [← hzz] at hz hst
      obtain ⟨q, hq⟩ : ∃ q, q = z / b := ⟨_, rfl⟩
      have hq1 : (z : Int) / (b : Int) = (q : Int) := by rw [hq]; simp
      rw [← hq] at hst
      have hqB : q < 4294967296 := hst.1
      obtain ⟨r2, hr2⟩ : ∃ r2, r2 = z % b := ⟨_, rfl⟩
      have hr21 : (z : Int) % (b : Int) = (r2 : Int) := by rw [hr2]; simp
      rw [← hr2] at hst
      have hr2b : r2 < b := by rw [hr2]; exact Nat.mod_lt _ hb0
      have hzb : z ≤ 18446744073709551615 := by omega
      have hcell : wr.cell? ⟨w.heap.size, i, none⟩ = some (.int .u32 (lim Qs i : Nat)) := blk_cell hbl (by have := HI.out.lenQ; have := HL.out; omega)
      have hfr := hbl.frozen i
      obtain ⟨b1, o1, rfl, -, hc1⟩ := (h.below hb).get (k := i) (by omega)
      have HS := hide hst.2
      have HR2 := hide hr21
      clear hst hzz hq hr2
      go_wp2
      go_roundw
      case rel =>
        refine ⟨i, r2, Qs.set i q, by omega, by go_num, ?_, hr2b, hb.setCell (Nat.le_refl _) _, blk_set hbl i q, HS⟩
        first | rfl | exact congrArg _ HR2.out
      case measure => simp [intOf] <;> omega
/-- Two slices of limbs and no error. -/
def Gives3T (w : World) (xs ys : List Nat) (e : Ending) (w' : World) : Prop :=
  ∃ A c B d, e = .returned (.tuple #[.slice A xs.length c, .slice B ys.length d, .int .i64 0]) ∧ Rd w' A xs.length c xs ∧ Rd w' B ys.length d ys ∧ Below w.heap.size w w' ∧ Ty w' A xs.length
section
variable (A B : Option Addr) (n m c d : Nat) (xs ys : List Nat) (w : World) (h : Rd w A n c xs) (h2 : Rd w B m d ys) (hn : n ≤ 65536) (hm : m ≤ 65536)
include h h2 hn hm
theorem dm_lessT (hlt : val xs < val ys) : Calls Tryz.prog 44 #[.slice A n c, .slice B m d] w (Gives3T w [] (dg (val xs))) :=
  (dm_less A B n m c d xs ys w h h2 hn hm hlt).mono fun e w' ⟨A1, c1, B1, d1, he, r1, r2, hb⟩ => ⟨A1, c1, B1, d1, he, r1, r2, hb, fun h0 => absurd h0 (by simp)⟩
set_option maxHeartbeats 2000000 in
theorem dm_smallT (hle : val ys ≤ val xs) (h0 : 0 < val ys) (hx2 : tlen xs ≤ 2) : Calls Tryz.prog 44 #[.slice A n c, .slice B m d] w (Gives3T w (dg (val xs / val ys)) (dg (val xs % val ys))) := by
  have hn4 : n ≤ 4194304 := by omega
  have hm4 : m ≤ 4194304 := by omega
  have ht : tlen ys ≠ 0 := fun h0 => by have := tlen_zero_iff.1 h0; omega
  have e0 : (((tlen ys : Nat) : Int) == 0) = false := by simp; omega
  have hy2 : tlen ys ≤ 2 := Nat.le_trans (tlen_mono h2.sm h.sm hle) hx2
  obtain ⟨r, hr, hr0⟩ : ∃ r, sg (val (xs.take (tlen xs))) (val (ys.take (tlen ys))) = r ∧ 0 ≤ r := ⟨_, rfl, by rw [val_trim h.sm, val_trim h2.sm]; unfold sg; rw [if_neg (by omega)]; split <;> omega⟩
  have hX := u64_two (h.sm.take (tlen xs)) (by rw [List.length_take]; omega)
  have hvx : lim (xs.take (tlen xs)) 0 + 4294967296 * lim (xs.take (tlen xs)) 1 = val xs := by rw [val_two (by rw [List.length_take]; omega), val_trim h.sm]
  have hvy : lim (ys.take (tlen ys)) 0 + 4294967296 * lim (ys.take (tlen ys)) 1 = val ys := by rw [val_two (by rw [List.length_take]; omega), val_trim h2.sm]
  rw [val_trim h.sm] at hX
  have hx1 : tlen xs ≤ 1048576 := by omega
  have hy1 : tlen ys ≤ 1048576 := by omega
  generalize val xs = X at hle h0 hvx hX ⊢
  generalize val ys = Y at hle h0 hvy ⊢
  have hY0 : ((Y : Int) == 0) = false := by simp; omega
  have hq1 : X / Y ≤ 18446744073709551615 := Nat.le_trans (Nat.div_le_self _ _) hX
  have HQ := hide (show IntKind.u64.wrap ((X : Int) / (Y : Int)) = ((X / Y : Nat) : Int) by
    have e : (X : Int) / (Y : Int) = ((X / Y : Nat) : Int) := by simp
    rw [e]
    generalize X / Y = Z at hq1 ⊢
    exact IntWalk.u64_in _ ⟨by omega, by omega⟩)
  have HQ' := hide (show (X : Int) / (Y : Int) = ((X / Y : Nat) : Int) by simp)
  have HR' := hide (show (X : Int) % (Y : Int) = ((X % Y : Nat) : Int) by simp)
  have HR := hide (show (X : Int).tmod (Y : Int) = ((X % Y : Nat) : Int) by
    rw [Int.tmod_eq_emod_of_nonneg (by omega)]; simp)
  have hq2 : X % Y ≤ 18446744073709551615 := Nat.le_trans (Nat.mod_le _ _) hX
  have HS := hide hr
  have HVX := hide hvx
  have HVY := hide hvy
  have H1 := hide hq1
  have H2 := hide hq2
  clear ht hr hvx hvy hq1 hq2 hle
  go_enter Tryz.func44, Tryz.ntmps44
  go_wp2_with (first
      | (go_at_call 50; (with_reducible refine (trim_calls A n c xs _ h hn4).mono ?_); rintro e w' ⟨A1, c1, rfl, rfl, hr1, -⟩)
      | (go_at_call 50; (with_reducible refine (trim_calls B m d ys _ h2 hm4).mono ?_); rintro e w' ⟨A2, c2, rfl, rfl, hr2, -⟩)
      | (go_at_call 47; refine (cmp_calls _ _ _ _ _ _ _ _ _ r hr1 hr2 hx1 hy1 HS.out).mono ?_; rintro e w' ⟨rfl, q, rfl⟩)
      | (go_at_call 77; (with_reducible refine (low_at A1 _ _ _ _ X HVX.out (hr1.below (below_drewN (Below.refl _ _) q))).mono ?_); rintro e w' ⟨rfl, rfl⟩)
      | (go_at_call 77; (with_reducible refine (low_at A2 _ _ _ _ Y HVY.out (hr2.below (below_drewN (Below.refl _ _) q))).mono ?_); rintro e w' ⟨rfl, rfl⟩))
  clear h h2 hr1 hr2 HVX HVY HS
  go_region_with (first
      | (go_at_call 49; (with_reducible refine (of_intT (IntKind.u64.wrap ((X : Int) / (Y : Int))) (X / Y) _ HQ.out H1.out).mono ?_); rintro e w1 ⟨A4, c4, rfl, hr4, hb4, ty4⟩)
      | (go_at_call 49; (with_reducible refine (of_int ((X : Int).tmod (Y : Int)) (X % Y) _ HR.out H2.out).mono ?_); rintro e w2 ⟨A5, c5, rfl, hr5, hb5⟩)
      | (go_at_call 49; (with_reducible refine (of_intT ((X : Int) / (Y : Int)) (X / Y) _ HQ'.out H1.out).mono ?_); rintro e w1 ⟨A4, c4, rfl, hr4, hb4, ty4⟩)
      | (go_at_call 49; (with_reducible refine (of_int ((X : Int) % (Y : Int)) (X % Y) _ HR'.out H2.out).mono ?_); rintro e w2 ⟨A5, c5, rfl, hr5, hb5⟩))
  all_goals go_wp2
  all_goals go_ret3
  all_goals exact ⟨A4, c4, A5, c5, rfl, hr4.below hb5, hr5, below_then (below_then ((below_drewN (Below.refl _ _) q).drew) (Nat.le_refl _) hb4) (Nat.le_refl _) hb5, ty4.below hb5⟩
theorem dm_oneT (hle : val ys ≤ val xs) (h1 : tlen ys = 1) (hx2 : 2 < tlen xs) : Calls Tryz.prog 44 #[.slice A n c, .slice B m d] w (Gives3T w (dg (val xs / val ys)) (dg (val xs % val ys))) := by
  have hn4 : n ≤ 4194304 := by omega
  have hm4 : m ≤ 4194304 := by omega
  obtain ⟨r, hr, hr0⟩ : ∃ r, sg (val (xs.take (tlen xs))) (val (ys.take 1)) = r ∧ 0 ≤ r := ⟨_, rfl, by rw [← h1, val_trim h.sm, val_trim h2.sm]; unfold sg; rw [if_neg (by omega)]; split <;> omega⟩
  have hv : lim (ys.take 1) 0 = val ys := by
    have h3 : lim (ys.take 1) 1 = 0 := lim_of_ge (by rw [List.length_take]; omega)
    have h4 := val_two (xs := ys.take 1) (by rw [List.length_take]; omega)
    rw [h3] at h4
    rw [← h1] at h4 ⊢
    rw [val_trim h2.sm] at h4
    omega
  have hb0 : 0 < val ys := by
    rcases Nat.eq_zero_or_pos (val ys) with h0 | h0
    · have := tlen_zero_iff.2 h0; omega
    · exact h0
  have hbB : val ys < 4294967296 := by rw [← hv]; exact (h2.sm.take 1).lim 0
  have hx := tlen_le xs
  rw [h.len] at hx
  have hx1 : tlen xs ≤ 1048576 := by omega
  have htr : Calls Tryz.prog 50 #[.slice B m d] w fun e w' => ∃ A' c', e = .returned (.slice A' 1 c') ∧ w = w' ∧ Rd w A' 1 c' (ys.take 1) := by
    have := trim_calls B m d ys w h2 hm4
    rw [h1] at this
    exact this.mono fun _ _ ⟨A', c', he, hw, hr, _⟩ => ⟨A', c', he, hw, hr⟩
  have hdb : ∀ (A1 : Option Addr) (c1 : Nat) (W : World), Rd W A1 (tlen xs) c1 (xs.take (tlen xs)) → Calls Tryz.prog 78 #[.slice A1 (tlen xs) c1, .int .u64 (val ys : Int)] W (GivesUT W (dg (val xs / val ys)) (val xs % val ys)) := by
    intro A1 c1 W hr
    have := dbl_callsT A1 (tlen xs) c1 _ W (val ys) hr hx1 hb0 hbB
    rwa [val_trim h.sm] at this
  have hrm : val xs % val ys ≤ 18446744073709551615 := by have := Nat.mod_lt (val xs) hb0; omega
  have HT := hide htr
  have HDB := hide hdb
  have HS := hide hr
  have HRM := hide hrm
  have hd2 : decide (((tlen xs : Nat) : Int) ≤ 2) = false := by simp; omega
  clear hr h1 htr hdb hrm hle
  generalize val ys = Y at *
  generalize val xs = X at *
  have hvy : ((lim (ys.take 1) 0 : Nat) : Int) = (Y : Int) := by omega
  clear hv
  go_enter Tryz.func44, Tryz.ntmps44
  go_wp2_with (first
      | (go_at_call 50; (with_reducible refine (trim_calls A n c xs _ h hn4).mono ?_); rintro e w' ⟨A1, c1, rfl, rfl, hr1, -⟩)
      | (go_at_call 50; (with_reducible refine (unhide HT).mono ?_); rintro e w' ⟨A2, c2, rfl, rfl, hr2⟩; obtain ⟨b0, o0, rfl, -, hc0⟩ := hr2.get0 (by omega))
      | (go_at_call 47; refine (cmp_calls _ _ _ _ _ _ _ _ _ r hr1 hr2 hx1 (by omega) HS.out).mono ?_; rintro e w' ⟨rfl, q, rfl⟩)
      | (go_at_call 78; refine ((unhide HDB) A1 c1 _ (hr1.below (below_drewN (Below.refl _ _) q))).mono ?_; rintro e w' ⟨A3, c3, rfl, hr3, hb3, ty3⟩)
      | (go_at_call 49; refine (of_int _ (X % Y) _ rfl HRM.out).mono ?_; rintro e w5 ⟨A5, c5, rfl, hr5, hb5⟩))
  go_ret3
  exact ⟨A3, c3, A5, c5, rfl, hr3.below hb5, hr5, below_then (below_then (below_drewN (Below.refl _ _) q) (Nat.le_refl _) hb3) (Nat.le_refl _) hb5, ty3.below hb5⟩
end
/-- A quotient in memory of limbs, a remainder, no error. -/
def GDT (w : World) (k l X Y : Nat) (e : Ending) (w' : World) : Prop := ∃ A n c B m d, e = .returned (.tuple #[.slice A n c, .slice B m d, .int .i64 0]) ∧ Ny w' A n c k X ∧ Ny w' B m d l Y ∧ Below w.heap.size w w' ∧ Ty w' A n
theorem tlen_one {ys : List Nat} (hs : Sm ys) (h0 : 0 < val ys) (h1 : val ys < 4294967296) : tlen ys = 1 := by
  have h2 : (dg (val ys)).length ≤ 1 := dg_le (k := 1) (by have : pw 1 = 4294967296 := by decide
                                                           omega)
  rw [len_dg_val hs] at h2
  have h3 : tlen ys ≠ 0 := fun e => by have := tlen_zero_iff.1 e; omega
  omega
theorem div_T (A B : Option Addr) (n m c d k l X Y Q R : Nat) (w : World) (hQ : X / Y = Q) (hR : X % Y = R) (hY : 0 < Y) (hY2 : Y < 4294967296) (h : Nz w A n c k X) (h2 : Nz w B m d l Y) (hk : k ≤ 65536) (hl : l ≤ 65536) :
    Calls Tryz.prog 44 #[.slice A n c, .slice B m d] w (GDT w k l Q R) := by
  have l1 : Q < pw k := by rw [← hQ]; exact Nat.lt_of_le_of_lt (Nat.div_le_self _ _) h.lt
  have l2 : R < pw l := by rw [← hR]; exact Nat.lt_trans (Nat.mod_lt _ hY) h2.lt
  obtain ⟨h1, xs, hx, ex⟩ := h
  obtain ⟨k1, ys, hy, ey⟩ := h2
  subst hQ hR ex ey
  have hn : n ≤ 65536 := by omega
  have hm : m ≤ 65536 := by omega
  have key : Calls Tryz.prog 44 #[.slice A n c, .slice B m d] w (Gives3T w (dg (val xs / val ys)) (dg (val xs % val ys))) := by
    rcases Nat.lt_or_ge (val xs) (val ys) with hlt | hge
    · have := dm_lessT A B n m c d xs ys w hx hy hn hm hlt
      rw [Nat.div_eq_of_lt hlt, Nat.mod_eq_of_lt hlt]
      exact this
    · by_cases h2 : tlen xs ≤ 2
      · exact dm_smallT A B n m c d xs ys w hx hy hn hm hge hY h2
      · exact dm_oneT A B n m c d xs ys w hx hy hn hm hge (tlen_one hy.sm hY hY2) (by omega)
  refine key.mono ?_
  rintro e w' ⟨A1, c1, B1, d1, he, r1, r2, hb, ht⟩
  exact ⟨A1, _, c1, B1, _, d1, he, ⟨dg_le l1, r1⟩, ⟨dg_le l2, r2⟩, hb, ht⟩
end Go.Proofs.YtjpchbcenbjibaaGreatDoor
