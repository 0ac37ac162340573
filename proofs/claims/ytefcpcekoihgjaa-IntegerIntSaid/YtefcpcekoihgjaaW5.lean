/-
  Sub.
-/
import Derived.Test.YtefcpcekoihgjaaW4
namespace Go.Proofs.Ytefcpcekoihgjaa
open Go.RowKit
set_option linter.unusedVariables false
set_option linter.unusedSimpArgs false

/-- A slice of limbs and an error. -/
def GivesE (w : World) (xs : List Nat) (r : Int) (e : Ending) (w' : World) : Prop := ∃ A c, e = .returned (.tuple #[.slice A xs.length c, .int .i64 r]) ∧ Rd w' A xs.length c xs ∧ Below w.heap.size w w'

theorem gives_err {w w' : World} {xs : List Nat} {A : Option Addr} {n c : Nat} (h : Gives w xs (.returned (.slice A n c)) w') (r : Int) : GivesE w xs r (.returned (.tuple #[.slice A n c, .int .i64 r])) w' := by
  obtain ⟨A', c', he, h1, h2⟩ := h
  injection he with he
  injection he with a b d
  subst a b d
  exact ⟨_, _, rfl, h1, h2⟩
theorem sub_word {x y b : Nat} (hx : x < 4294967296) (hy : y < 4294967296) (hb : b ≤ 1) : ∃ v q : Nat, IntKind.u64.wrap (IntKind.u64.wrap ((x : Int) - y) - b) % 4294967296 = (v : Int) ∧
    IntKind.u64.wrap (IntKind.u64.wrap ((x : Int) - y) - b) / 9223372036854775808 = (q : Int) ∧ v < 4294967296 ∧ q ≤ 1 ∧ v + y + b = x + 4294967296 * q := by
  rw [IntKind.wrap_u64, IntKind.wrap_u64]
  by_cases h : x < y + b
  · exact ⟨x + 4294967296 - y - b, 1, by omega, by omega, by omega, by omega, by omega⟩
  · exact ⟨x - y - b, 0, by omega, by omega, by omega, by omega, by omega⟩

theorem sub_lt (A B : Option Addr) (n m c d : Nat) (xs ys : List Nat) (w : World) (h : Rd w A n c xs) (h2 : Rd w B m d ys) (hn : n ≤ 1048576) (hm : m ≤ 1048576) (hlt : val xs < val ys) :
    Calls Try.prog 48 #[.slice A n c, .slice B m d] w (GivesE w [] 2) := by
  have hs := sg_lt hlt
  go_enter Try.func48, Try.ntmps48
  go_wp2_with (go_at_call 47; refine (cmp_calls A B n m c d xs ys _ (-1) h h2 hn hm hs).mono ?_; rintro e w' ⟨rfl, q, rfl⟩)
  go_ret2
  exact ⟨none, 0, rfl, Rd.empty _ _ _, below_drewN (Below.refl _ _) _⟩

theorem sub_ge (A B : Option Addr) (n m c d : Nat) (xs ys : List Nat) (w : World) (h : Rd w A n c xs) (h2 : Rd w B m d ys) (hn : n ≤ 1048576) (hm : m ≤ 1048576) (hle : val ys ≤ val xs) :
    Calls Try.prog 48 #[.slice A n c, .slice B m d] w (GivesE w (dg (val xs - val ys)) 0) := by
  have hmk := fun W => run_mk 23 (.inr rfl) n (n : Int) rfl (by omega) W
  obtain ⟨r, hr, hr0⟩ : ∃ r, sg (val xs) (val ys) = r ∧ 0 ≤ r := ⟨_, rfl, by unfold sg; rw [if_neg (by omega)]; split <;> omega⟩
  have HR := hide hr
  clear hr
  go_enter Try.func48, Try.ntmps48
  go_wp2_with (go_at_call 47; refine (cmp_calls A B n m c d xs ys _ r h h2 hn hm HR.out).mono ?_; rintro e w' ⟨rfl, q, rfl⟩)
  go_loopw [7, 20] (fun cy i wr => ∃ (k bw : Nat) (S : List Nat), k ≤ n ∧ i = .int .i64 k ∧ cy = .int .u64 bw ∧ bw ≤ 1 ∧ Below w.heap.size w wr ∧ Blk wr w.heap.size (arr S) ∧ Hid (S.length = n ∧ Sm S ∧ pv S k + pv ys k = pv xs k + pw k * bw)) (fun _ i _ => n - (intOf i).toNat)
  case atStart =>
    exact ⟨0, 0, zs n, by omega, rfl, rfl, by omega, (below_drewN (Below.refl _ _) _).alloc (Nat.le_refl _) _, Blk.new _ _, zs_len _, zs_sm _, by rw [zs_pv, pv_zero, pv_zero, Nat.mul_zero]⟩
  case round =>
    obtain ⟨k, bw, S, hk, rfl, rfl, hbw, hb, hbl, HI⟩ := hrel
    have hx := h.sm.lim k
    have hy := h2.sm.lim k
    by_cases hkn : k < n
    · have hbc : wr.cell? ⟨w.heap.size, k, none⟩ = some (.int .u32 (lim S k : Nat)) := blk_cell hbl (by have := HI.out.1; omega)
      have hbf := hbl.frozen k
      obtain ⟨b, off, hA, _, hc⟩ := (h.below hb).get hkn
      subst hA
      have hr2 := h2.below hb
      go_wp2_with (go_at_call 59; refine (limb_calls B m d ys _ k hr2).mono ?_; rintro e w' ⟨rfl, rfl⟩)
      obtain ⟨v, q, hv1, hv2, hv3, hv4, hv5⟩ := sub_word hx hy hbw
      go_roundw
      case rel =>
        rw [hv1, hv2]
        exact ⟨k + 1, q, _, by omega, by go_num, rfl, hv4, hb.setCell (Nat.le_refl _) _, blk_set hbl k v, sub_step hkn hv3 hv5 HI.out⟩
      case measure => simp [intOf]; omega
    · obtain rfl : n = k := by omega
      have e3 := sub_end h.len h.sm hle HI.out
      have hr := blk_rd0 (c := n) hbl HI.out.2.1 HI.out.1 (by omega)
      have E := hide e3
      clear e3
      go_wp2_with (go_at_call 56; refine (trim_calls _ _ _ _ _ hr (by omega)).mono ?_; rintro e w' ⟨A1, c1, rfl, rfl, hr1, _⟩)
      go_ret2
      exact gives_err (gives_trim HI.out.2.1 E.out hr1 hb) 0
end Go.Proofs.Ytefcpcekoihgjaa
