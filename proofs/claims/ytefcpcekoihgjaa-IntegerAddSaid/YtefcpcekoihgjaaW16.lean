/-
  divideByLimb.
-/
import Derived.Test.YtefcpcekoihgjaaW10
import Derived.Test.YtefcpcekoihgjaaN5
namespace Go.Proofs.Ytefcpcekoihgjaa
open Go.RowKit
set_option linter.unusedVariables false
set_option linter.unusedSimpArgs false

structure Db (Qs xs : List Nat) (b r j : Nat) : Prop where
  lenQ : Qs.length = xs.length
  smQ : Sm Qs
  less : r < b
  whole : val (xs.drop j) = b * val (Qs.drop j) + r
theorem db_step {Qs xs : List Nat} {b r i : Nat} (hb : b < 4294967296) (hi : i < xs.length) (hx : lim xs i < 4294967296) (h : Db Qs xs b r (i + 1)) :
    (lim xs i + 4294967296 * r) / b < 4294967296 ∧ Db (Qs.set i ((lim xs i + 4294967296 * r) / b)) xs b ((lim xs i + 4294967296 * r) % b) i := by
  obtain ⟨h1, h2, h3, h4⟩ := h
  have hq : (lim xs i + 4294967296 * r) / b < 4294967296 := by
    apply Nat.div_lt_of_lt_mul
    have := Nat.mul_le_mul_right 4294967296 (show r + 1 ≤ b from h3)
    omega
  refine ⟨hq, by rw [List.length_set, h1], h2.set _ hq, Nat.mod_lt _ (by omega), ?_⟩
  rw [val_cons_drop hi, val_cons_drop (T := Qs.set i _) (by rw [List.length_set]; omega), lim_set_eq (by omega), List.drop_set_of_lt (by omega), h4, Nat.mul_add, Nat.mul_add]
  have e := Nat.div_add_mod (lim xs i + 4294967296 * r) b
  rw [Nat.mul_left_comm b 4294967296]
  omega
def GivesU (w : World) (xs : List Nat) (r : Nat) (e : Ending) (w' : World) : Prop :=
  ∃ A c, e = .returned (.tuple #[.slice A xs.length c, .int .u64 (r : Int)]) ∧ Rd w' A xs.length c xs ∧ Below w.heap.size w w'
theorem dbl_calls (A : Option Addr) (n c : Nat) (xs : List Nat) (w : World) (b : Nat) (h : Rd w A n c xs) (hn : n ≤ 1048576) (hb0 : 0 < b) (hbB : b < 4294967296) :
    Calls Try.prog 63 #[.slice A n c, .int .u64 (b : Int)] w (GivesU w (dg (val xs / b)) (val xs % b)) := by
  have hmk := fun W => run_mk 23 (.inr rfl) n (n : Int) rfl (by omega) W
  have hbn : ((b : Int) == 0) = false := by simp; omega
  have HL := hide h.len
  go_enter Try.func63, Try.ntmps63
  go_wp2
  go_loopw [7, 8] (fun rv i wr => ∃ (j r : Nat) (Qs : List Nat), j ≤ n ∧ i = .int .i64 ((j : Int) - 1) ∧ rv = .int .u64 r ∧ r < b ∧ Below w.heap.size w wr ∧ Blk wr w.heap.size (arr Qs) ∧ Hid (Db Qs xs b r j)) (fun _ i _ => (intOf i + 1).toNat)
  case atStart =>
    exact ⟨n, 0, zs n, Nat.le_refl _, rfl, rfl, hb0, (Below.refl _ _).alloc (Nat.le_refl _) _, Blk.new _ _, ⟨by rw [zs_len, HL.out], zs_sm _, hb0, by
      rw [List.drop_of_length_le (by rw [HL.out]; exact Nat.le_refl _), List.drop_of_length_le (by rw [zs_len]; exact Nat.le_refl _)]; simp [val]⟩⟩
  case round =>
    obtain ⟨j, r, Qs, hj, rfl, rfl, hr, hb, hbl, HI⟩ := hrel
    by_cases h0 : j = 0
    · subst h0
      have hlq := HI.out.lenQ.trans HL.out
      have hrq := blk_rd0 (c := n) (n := n) hbl HI.out.smQ hlq (by omega)
      have hw := HI.out.whole
      have hq : val Qs = val xs / b ∧ val xs % b = r := by
        rw [List.drop_zero, List.drop_zero] at hw
        rw [hw]
        exact ⟨by rw [Nat.mul_add_div hb0, Nat.div_eq_of_lt hr, Nat.add_zero], by rw [Nat.mul_add_mod, Nat.mod_eq_of_lt hr]⟩
      have hlq := len_dg_val HI.out.smQ
      have hdq := dg_val HI.out.smQ
      rw [hq.1] at hlq hdq
      have htr := trim_calls _ _ _ _ wr hrq (by omega)
      rw [← hdq, ← hlq] at htr
      have HTR := hide htr
      have HQ := hide hq.2
      clear htr hlq hdq hw hq
      go_wp2_with fail
      refine (unhide HTR).mono ?_
      rintro e w6 ⟨A6, c6, rfl, rfl, hr6, -⟩
      go_wp2
      go_ret2
      exact ⟨A6, c6, by rw [HQ.out]; rfl, hr6, hb⟩
    · obtain ⟨i, rfl⟩ : ∃ i, j = i + 1 := ⟨j - 1, by omega⟩
      have e : ((i + 1 : Nat) : Int) - 1 = i := by omega
      rw [e]
      clear e
      have hx := h.sm.lim i
      have hst := db_step hbB (by rw [HL.out]; omega) hx HI.out
      have hz := or_lo hx (show r < 4294967296 by omega)
      obtain ⟨z, hzz⟩ : ∃ z, z = lim xs i + 4294967296 * r := ⟨_, rfl⟩
      rw [← hzz] at hz hst
      obtain ⟨q, hq⟩ : ∃ q, q = z / b := ⟨_, rfl⟩
      have hq1 : (z : Int) / (b : Int) = (q : Int) := by rw [hq]; simp
      rw [← hq] at hst
      have hqB : q < 4294967296 := hst.1
      obtain ⟨r2, hr2⟩ : ∃ r2, r2 = z % b := ⟨_, rfl⟩
      have hr21 : (z : Int) % (b : Int) = (r2 : Int) := by rw [hr2]; simp
      rw [← hr2] at hst
      have hr2b : r2 < b := by rw [hr2]; exact Nat.mod_lt _ hb0
      have hzb : z ≤ 18446744073709551615 := by omega
      have hcell : wr.cell? ⟨w.heap.size, i, none⟩ = some (.int .u32 (lim Qs i : Nat)) := blk_cell hbl (by have := HI.out.lenQ; have := HL.out; omega)
      have hfr := hbl.frozen i
      obtain ⟨b1, o1, rfl, -, hc1⟩ := (h.below hb).get (k := i) (by omega)
      have HS := hide hst.2
      have HR2 := hide hr21
      clear hst hzz hq hr2
      go_wp2
      go_roundw
      case rel =>
        refine ⟨i, r2, Qs.set i q, by omega, by go_num, ?_, hr2b, hb.setCell (Nat.le_refl _) _, blk_set hbl i q, HS⟩
        first | rfl | exact congrArg _ HR2.out
      case measure => simp [intOf] <;> omega
end Go.Proofs.Ytefcpcekoihgjaa
