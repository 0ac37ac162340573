/-
  divideLong.
-/
import Derived.Test.YtefcpcekoihgjaaW14
import Derived.Test.YtefcpcekoihgjaaW10
import Derived.Test.YtefcpcekoihgjaaN5
import Derived.Lib.ItoaNum
namespace Go.Proofs.Ytefcpcekoihgjaa
open Go.RowKit
set_option linter.unusedVariables false
set_option linter.unusedSimpArgs false

theorem lz_calls (x : Nat) (w : World) (hx : x < 4294967296) (h0 : x ≠ 0) :
    Calls Try.prog 66 #[.int .u32 (x : Int)] w fun e w' => ∃ k : Nat, e = .returned (.int .i64 (k : Int)) ∧ w = w' ∧ k < 32 ∧ 2147483648 ≤ x * 2 ^ k ∧ x * 2 ^ k < 4294967296 := by
  refine (Try.bits_LeadingZeros32 (x : Int) w (by omega) (by omega)).mono ?_
  rintro e w' ⟨rfl, rfl⟩
  rw [Int.toNat_natCast]
  have hb := Lib.bitLenAux_bounds 64 x (by omega) h0
  have hle : Lib.bitLen x ≤ 32 := Lib.bitLen_le x 32 (by omega) (by omega)
  obtain ⟨h1, h2, h3⟩ := hb
  have hz := lz_of (x := x) (b := Lib.bitLen x) h1 hle h2 h3
  have h1' : 1 ≤ Lib.bitLen x := h1
  generalize Lib.bitLen x = b at *
  exact ⟨32 - b, ret_int (by omega), rfl, by omega, hz.1, hz.2⟩
theorem shl32_calls (A : Option Addr) (n c : Nat) (xs : List Nat) (w : World) (k : Nat) (h : Rd w A n c xs) (hn : n ≤ 1048576) (hk : k < 32) :
    Calls Try.prog 67 #[.slice A n c, .int .i64 (k : Int)] w fun e w' => ∃ S : List Nat, e = .returned (.slice (some ⟨w.heap.size, 0, none⟩) (n + 1) (n + 1)) ∧ Blk w' w.heap.size (arr S) ∧ S.length = n + 1 ∧ Sm S ∧ val S = val xs * 2 ^ k ∧ Below w.heap.size w w' := by
  have := shiftLeft_calls A n c xs w k h hn (by omega)
  rw [show k / 32 + n + 1 = n + 1 by omega] at this
  exact this
/-- Two slices of limbs. -/
def Gives2 (w : World) (xs ys : List Nat) (e : Ending) (w' : World) : Prop :=
  ∃ A c B d, e = .returned (.tuple #[.slice A xs.length c, .slice B ys.length d]) ∧ Rd w' A xs.length c xs ∧ Rd w' B ys.length d ys ∧ Below w.heap.size w w'

set_option maxHeartbeats 800000 in
theorem dl_calls (A B : Option Addr) (n p c d : Nat) (xs ys : List Nat) (w : World) (h : Rd w A n c xs) (h2 : Rd w B (p + 2) d ys) (hn : n ≤ 524288) (hle : val ys ≤ val xs) (htop : lim ys (p + 1) ≠ 0) (hmn : p + 2 ≤ n) :
    Calls Try.prog 64 #[.slice A n c, .slice B (p + 2) d] w (Gives2 w (dg (val xs / val ys)) (dg (val xs % val ys))) := by
  have hy1 := h2.sm.lim (p + 1)
  have hyl := h2.len
  have hypos : pw (p + 2 - 1) ≤ val ys := by
    rw [← pv_len (k := p + 2) (by omega), pv_succ]
    have := Nat.le_mul_of_pos_right (pw (p + 1)) (show 0 < lim ys (p + 1) by omega)
    show pw (p + 1) ≤ _
    omega
  have hA : val xs < pw n := by rw [← h.len]; exact val_lt h.sm
  have HP := hide (And.intro hypos hA)
  clear hypos hA hle
  have hmk := fun W => run_mk 23 (.inr rfl) (n + 1 - (p + 2)) ((n : Int) + 1 - ((p : Int) + 2)) (by omega) (by omega) W
  have hmk2 := fun W => run_mk 23 (.inr rfl) (n + 1 - (p + 2)) ((n : Int) + 1 - ((p + 2 : Nat) : Int)) (by omega) (by omega) W
  have hlz := fun W => lz_calls (lim ys (p + 1)) W hy1 htop
  have HLZ := hide hlz
  have HH2 := hide h2
  obtain ⟨b0, off, rfl, -, hc0⟩ := h2.get (k := p + 1) (by omega)
  clear hlz hyl
  go_enter Try.func64, Try.ntmps64
  go_wp2_with fail
  refine (unhide HLZ _).mono ?_
  rintro e w' ⟨k, rfl, rfl, hk, hlo, hhi⟩
  have HN := hide (norm_len (unhide HH2).sm (unhide HH2).len hlo hhi)
  clear hlo hhi
  go_wp2_with fail
  refine (shl32_calls A n c xs _ k h (by omega) hk).mono ?_
  rintro e w1 ⟨S1, rfl, hbl1, hl1, hsm1, hv1, hb1⟩
  have H1 := hide (And.intro hl1 hv1)
  have h2' := (unhide HH2).below hb1
  clear hl1 hv1
  go_wp2_with fail
  refine (shl32_calls _ (p + 2) d ys _ k h2' (by omega) hk).mono ?_
  rintro e w2 ⟨S2, rfl, hbl2, hl2, hsm2, hv2, hb2⟩
  have hr2 := blk_rd0 (c := p + 3) (n := p + 3) hbl2 hsm2 hl2 (by omega)
  have ht2 : tlen S2 = p + 2 := by rw [← len_dg_val hsm2, hv2]; exact HN.out.2.1
  have hd2 : S2.take (p + 2) = dg (val ys * 2 ^ k) := by rw [← ht2, ← dg_val hsm2, hv2]
  have H2 := hide (And.intro hl2 (And.intro ht2 hd2))
  have htr := trim_calls _ _ _ _ w2 hr2 (by omega)
  rw [ht2] at htr
  have HTR := hide htr
  clear hl2 hv2 ht2 hd2 htr
  go_wp2_with fail
  refine (unhide HTR).mono ?_
  rintro e w' ⟨A2, c2, rfl, rfl, hr3, hA2⟩
  have hA2' := hA2 (by omega)
  subst hA2'
  have hc2 := hr3.cap
  clear hA2 hr3 hr2 HTR
  have hg12 : w.heap.size < w1.heap.size := hbl1.lt
  have hg23 : w1.heap.size < w2.heap.size := hbl2.lt
  go_wp2_with fail
  go_loopw [10] (fun i wr => ∃ (j : Nat) (T Qs : List Nat), j ≤ n - (p + 1) ∧ i = .int .i64 ((j : Int) - 1) ∧ Below w.heap.size w wr ∧ Blk wr w.heap.size (arr T) ∧ Blk wr w1.heap.size (arr S2) ∧ Blk wr w2.heap.size (arr Qs) ∧ Hid (Dl T Qs n (p + 2) (val ys * 2 ^ k) (val xs * 2 ^ k) j)) (fun i _ => (intOf i + 1).toNat)
  case atStart =>
    refine ⟨n - (p + 1), S1, zs (n - (p + 1)), Nat.le_refl _, rfl, (below_then hb1 (Nat.le_refl _) hb2).alloc (by omega) _, (hbl1.below hb2 hg12).alloc _, hbl2.alloc _, Blk.new _ _, ?_⟩
    have := dl_start (n := n) (m := p + 2) H1.out.1 hsm1 H1.out.2 HP.out.2 (by omega) hmn HP.out.1
    rw [show n + 1 - (p + 2) = n - (p + 1) by omega] at this
    exact this
  case round =>
    obtain ⟨j, T, Qs, hj, rfl, hb, hT, hS2, hQ, HI⟩ := hrel
    by_cases h0 : j = 0
    · subst h0
      have hr := blk_rd0 (c := n + 1) (n := n + 1) hT HI.out.smT HI.out.lenT (by omega)
      have hshr := shr_ok _ (n + 1) (n + 1) T wr k hr (by omega) (by omega)
      have HE := hide (dl_end (by rcases Nat.eq_zero_or_pos (val ys) with h0 | h0
                                  · have := pw_pos (p + 2 - 1); have := HP.out.1; omega
                                  · exact h0) HI.out)
      rw [HE.out.2] at hshr
      have HSH := hide hshr
      clear hshr
      go_wp2_with fail
      refine (unhide HSH).mono ?_
      rintro e w5 ⟨A5, c5, rfl, hr5, hb5⟩
      have hQ5 := hQ.below hb5 hQ.lt
      have hrq := blk_rd0 (c := n - (p + 1)) (n := n - (p + 1)) hQ5 HI.out.smQ (by rw [HI.out.lenQ]; omega) (by omega)
      have hlq := len_dg_val HI.out.smQ
      have hdq := dg_val HI.out.smQ
      rw [HE.out.1] at hlq hdq
      have htr := trim_calls _ _ _ _ w5 hrq (by omega)
      rw [← hdq, ← hlq] at htr
      have HTR2 := hide htr
      clear htr hlq hdq
      go_wp2_with fail
      refine (unhide HTR2).mono ?_
      rintro e w6 ⟨A6, c6, rfl, rfl, hr6, -⟩
      go_wp2
      go_ret2
      exact ⟨A6, c6, A5, c5, rfl, hr6, hr5, below_then hb (Nat.le_refl _) hb5⟩
    · obtain ⟨i, rfl⟩ : ∃ i, j = i + 1 := ⟨j - 1, by omega⟩
      have e : ((i + 1 : Nat) : Int) - 1 = i := by omega
      rw [e]
      clear e
      have hlenT := HI.out.lenT
      have hlenQ := HI.out.lenQ
      have hD : 0 < val ys * 2 ^ k := by have := HI.out.less; omega
      have hwin := dl_window HI.out (by omega) HN.out.1
      have hvd := val_dg (val ys * 2 ^ k)
      have hrd := blk_rd hS2 hsm2 (o := 0) (n := p + 2) (c := c2) (by have := H2.out.1; omega) hc2
      rw [List.drop_zero, H2.out.2.2] at hrd
      have hql := ql_calls w.heap.size i p (n + 1 - i) c2 _ T _ wr hT HI.out.smT (by omega) (by omega) hrd (fun _ ad had => by injection had with had; subst had; exact Nat.ne_of_gt hg12)
        (by rw [hvd]; have h1 := hwin.1; have h2 := hwin.2; show pv (T.drop i) (p + 2 + 1) < _; omega) HN.out.2.2 (by omega)
      have hql2 : Calls Try.prog 68 #[.slice (some ⟨w.heap.size, i, none⟩) (p + 3) (n + 1 - i), .slice (some ⟨w1.heap.size, 0, none⟩) (p + 2) c2] wr fun e w' =>
          ∃ (q : Nat) (T' : List Nat), e = .returned (.int .u32 (q : Int)) ∧ wr.grownBy w' (some w.heap.size) ∧ Blk w' w.heap.size (arr T') ∧ Hid (Dl T' (Qs.set i q) n (p + 2) (val ys * 2 ^ k) (val xs * 2 ^ k) i) := by
        refine hql.mono ?_
        rintro e w' ⟨T', rfl, hg, hbl, hw, hv⟩
        rw [hvd] at hv
        rw [hvd]
        exact ⟨_, T', rfl, hg, hbl, dl_step hD HI.out (by omega) HN.out.1 hw hv⟩
      have HQL := hide hql2
      have HLQ := hide hlenQ
      clear hql hql2 hwin hvd hrd hD hlenT hlenQ
      go_wp2_with fail
      rw [show i + (p + 2) + 1 - i = p + 3 by omega]
      refine (unhide HQL).mono ?_
      rintro e w5 ⟨q, T', rfl, hg, hbl5, HD⟩
      have hS5 := hS2.grown hg (by simp; omega)
      have hQ5 := hQ.grown hg (by simp; omega)
      have hcell : w5.cell? ⟨w2.heap.size, i, none⟩ = some (.int .u32 (lim Qs i : Nat)) := blk_cell hQ5 (by rw [HLQ.out]; omega)
      have hfr := hQ5.frozen i
      have hb5 : Below w.heap.size w w5 := hb.grown hg hb.size (fun g hg => by injection hg with hg; omega)
      go_wp2
      go_roundw
      case rel =>
        exact ⟨i, T', Qs.set i q, by omega, by go_num, hb5.setCell (by show w.heap.size ≤ w2.heap.size; omega) _, hbl5.far (by show w.heap.size ≠ w2.heap.size; omega) _, hS5.far (by show w1.heap.size ≠ w2.heap.size; omega) _, blk_set hQ5 i q, HD⟩
      case measure => simp [intOf] <;> omega
end Go.Proofs.Ytefcpcekoihgjaa
