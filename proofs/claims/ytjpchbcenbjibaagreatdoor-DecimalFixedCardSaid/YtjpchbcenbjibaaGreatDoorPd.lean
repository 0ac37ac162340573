/-
  The parser: digits.
-/
import Derived.Test.YtjpchbcenbjibaaGreatDoorPp
namespace Go.Proofs.YtjpchbcenbjibaaGreatDoor
open Go.RowKit
set_option linter.unusedVariables false
set_option linter.unusedSimpArgs false

theorem isd_at (c : UInt8) (V : Int) (w : World) (hV : V = (c.toNat : Int)) : Calls Tryz.prog 89 #[.int .u8 V] w fun e w' => e = .returned (.bool (isd c)) ∧ w = w' := by
  subst hV
  exact isd_calls c w
def cellI (w : World) (a : Addr) : Int := match w.cell? a with | some (.int _ q) => q | _ => 0
theorem cellI_of {w : World} {a : Addr} {q : Int} (h : w.cell? a = some (.int .i64 q)) : cellI w a = q := by unfold cellI; rw [h]
theorem bs_slice (l : List UInt8) (a b : Nat) (h : b ≤ l.length) : (bs l).extract a b = bs ((l.drop a).take (b - a)) := by
  apply ByteArray.ext
  simp [bs, ByteArray.data_extract, List.drop_take]
theorem PS.dig1_go (l : List UInt8) (s : PS) (h : ¬ s.len l < prun (l.drop s.i)) : s.dig1 l = ⟨s.i + s.len l, s.c + s.len l, s.e, s.o⟩ := by unfold PS.dig1; rw [if_neg h]
theorem PS.dig1_stop (l : List UInt8) (s : PS) (h : s.len l < prun (l.drop s.i)) : s.dig1 l = PS.fail ⟨s.i + s.len l, s.c + s.len l, s.e, s.o⟩ (s.i + s.len l) 8 := by unfold PS.dig1; rw [if_pos h]
set_option maxHeartbeats 1000000 in
theorem pdig_calls (g : Nat) (l : List UInt8) (s : PS) (w : World) (h : Pz w g l s) (hl : l.length ≤ 100000) (hi : s.i ≤ l.length) (hc : s.c ≤ 4000) :
    Calls Tryz.prog 63 #[.pointer (some ⟨g, 0, none⟩)] w (GPz w g l (s.dig l) (.string (bs (s.txt l)))) := by
  have hs := bs_size l
  have hrun := s.len_run l
  have hroom := s.len_room l
  have hle := s.len_le l hi
  obtain ⟨m, hm⟩ : ∃ m, s.len l = m := ⟨_, rfl⟩
  rw [hm] at hrun hroom hle
  have HM := hide hm
  have HT := hide (show bs (s.txt l) = (bs l).extract s.i (s.i + m) by rw [bs_slice l _ _ hle, PS.txt, hm]; congr 2; omega)
  have HX := hide (show s.i + m ≤ (bs l).size by rw [hs]; exact hle)
  have c1 := h.cell1
  clear hm
  go_enter Tryz.func63, Tryz.ntmps63
  go_wp2_with fail
  go_loopw [] (fun wr => ∃ j : Nat, j ≤ m ∧ Pz wr g l ⟨s.i + j, s.c + j, s.e, s.o⟩ ∧ w.grownBy wr (some g)) (fun wr => l.length + 1 - (cellI wr ⟨g, 1, none⟩).toNat)
  case atStart => exact ⟨0, Nat.zero_le _, h, grown_reflP _ _⟩
  case round =>
    obtain ⟨j, hj, hp, hg⟩ := hrel
    have q0 := hp.drew.cell0
    have q1 := hp.drew.cell1
    have p0 := hp.cell0
    have p1 := hp.cell1
    by_cases hjm : j < prun (l.drop s.i)
    · obtain ⟨c, hcc, hd⟩ := prun_at (l := l.drop s.i) (i := j) hjm
      have hc2 : l[s.i + j]? = some c := by rw [← hcc, List.getElem?_drop]
      have hlt : s.i + j < l.length := (List.getElem?_eq_some_iff.1 hc2).1
      have hlt2 : s.i + j < (bs l).size := by omega
      have HI := hide (show ∀ h : ((s.i : Int) + (j : Int)).toNat < (bs l).size, ((((bs l)[((s.i : Int) + (j : Int)).toNat]'h).toNat : Nat) : Int) = (c.toNat : Int) from fun h => by rw [bs_get l _ c c.toNat (by rw [show ((s.i : Int) + (j : Int)).toNat = s.i + j by omega]; exact hc2) rfl h])
      have d0 : decide ((s.i : Int) + (j : Int) < (l.length : Int)) = true := by simp; omega
      have HJ := hide hjm
      clear hcc hc2 hjm
      by_cases hj2 : j < m
      · have d4 : (((s.c : Int) + (j : Int)) == 4000) = false := by simp; omega
        have hp1 := (hp.setI ((s.i : Int) + (j : Int) + 1) (s.i + (j + 1)) (by omega)).drew
        have hp2 := hp1.setC ((s.c : Int) + (j : Int) + 1) (s.c + (j + 1)) (by omega)
        have q2 := hp.drew.cell2
        have r2 := hp1.cell2
        have fz1 := hp.drew.frozen 1
        have fz2 := hp1.frozen 2
        have HP := hide hp2
        have HP1 := hide hp1
        clear hp1 hp2
        go_wp2_with fail
        go_region_held3 (fun w' => w'.cell? ⟨g, 0, none⟩ = some (.string (bs l)) ∧ w'.cell? ⟨g, 1, none⟩ = some (.int .i64 ((s.i + j : Nat) : Int)))
          (first
            | with_reducible exact ⟨q0, q1⟩
            | with_reducible exact ⟨p0, p1⟩
            | fail)
          (first
            | (go_at_call 89; (with_reducible refine (isd_at c _ _ (HI.out _)).mono ?_); rintro e w' ⟨rfl, rfl⟩)
            | fail)
        all_goals go_wp2
        all_goals go_roundw
        case rel => exact ⟨j + 1, by omega, HP.out, Go.Lib.grownBy_trans (Go.Lib.grownBy_setB (Go.Lib.grownBy_setB hg 1 _) 2 _) (grown_drewP _ _)⟩
        case measure =>
          have e1 := HP.out.cell1
          rw [cellI_of p1]
          refine Nat.lt_of_le_of_lt (Nat.le_of_eq (congrArg (fun z : Int => l.length + 1 - z.toNat) (cellI_of e1))) ?_
          simp only []
          omega
      · obtain rfl : j = m := by omega
        have hlen := HM.out
        unfold PS.len at hlen
        have d4 : (((s.c : Int) + (j : Int)) == 4000) = true := by have := HJ.out; simp; omega
        have hst := s.dig1_stop l (by rw [HM.out]; exact HJ.out)
        rw [HM.out] at hst
        have HST := hide hst
        have q2 := hp.drew.cell2
        have hpd := hp.drew
        clear hst hlen
        go_wp2_with fail
        go_region_held3 (fun w' => w'.cell? ⟨g, 0, none⟩ = some (.string (bs l)) ∧ w'.cell? ⟨g, 1, none⟩ = some (.int .i64 ((s.i + j : Nat) : Int)))
          (first
            | with_reducible exact ⟨q0, q1⟩
            | with_reducible exact ⟨p0, p1⟩
            | fail)
          (first
            | (go_at_call 89; (with_reducible refine (isd_at c _ _ (HI.out _)).mono ?_); rintro e w' ⟨rfl, rfl⟩)
            | fail)
        all_goals go_wp2_with fail
        refine (fail_calls g l ⟨s.i + j, s.c + j, s.e, s.o⟩ (s.i + j) 8 _ _ _ (by simp) rfl hpd).mono ?_
        rintro e w8 ⟨rfl, h8, hg8⟩
        rw [← HST.out] at h8
        have g8 := Go.Lib.grownBy_trans (Go.Lib.grownBy_trans hg (grown_drewP wr _)) hg8
        have t1 := h8.cell1
        have t0 := h8.cell0
        rw [PS.dig1_i] at t1
        by_cases h0 : j = 0
        · have HZ := hide h0
          have z0 : ((s.i : Int) + (j : Int) == (s.i : Int)) = true := by simp; omega
          rw [HM.out] at t1
          clear h0
          go_wp2_with fail
          refine (fail_calls g l (s.dig1 l) (s.i + j) 4 _ _ _ (by simp) rfl h8).mono ?_
          rintro e w9 ⟨rfl, h9, hg9⟩
          have hd9 : (s.dig1 l).fail (s.i + j) 4 = s.dig l := by unfold PS.dig; rw [HM.out, if_pos HZ.out]
          rw [hd9] at h9
          have g9 := Go.Lib.grownBy_trans g8 hg9
          have u0 := h9.drew.cell0
          have u1 := h9.drew.cell1
          have v0 := h9.cell0
          have v1 := h9.cell1
          rw [PS.dig_i, HM.out] at u1 v1
          have hx := HX.out
          go_wp2_with fail
          go_region
          all_goals go_wp2
          all_goals go_ret
          all_goals exact ⟨by rw [HT.out]; rfl, h9.drew, Go.Lib.grownBy_trans g9 (grown_drewP w9 _)⟩
        · have HZ := hide h0
          have z0 : ((s.i : Int) + (j : Int) == (s.i : Int)) = false := by simp; omega
          rw [HM.out] at t1
          have hd9 : s.dig1 l = s.dig l := by unfold PS.dig; rw [HM.out, if_neg HZ.out]
          have h9 := h8.drew
          rw [hd9] at h9
          have u0 := h9.cell0
          have u1 := h9.cell1
          rw [PS.dig_i, HM.out] at u1
          have hx := HX.out
          clear h0
          go_wp2_with fail
          go_region
          all_goals go_wp2
          all_goals go_ret
          all_goals exact ⟨by rw [HT.out]; rfl, h9, Go.Lib.grownBy_trans g8 (grown_drewP w8 _)⟩
    · obtain rfl : j = m := by omega
      have hst := s.dig1_go l (by rw [HM.out]; omega)
      rw [HM.out] at hst
      have hpd := hp.drew
      rw [← hst] at hpd
      have gd := Go.Lib.grownBy_trans hg (grown_drewP wr _)
      by_cases hend : s.i + j < l.length
      · obtain ⟨c, hcc⟩ : ∃ c, l[s.i + j]? = some c := ⟨_, List.getElem?_eq_getElem hend⟩
        have hlt2 : s.i + j < (bs l).size := by omega
        have hd : isd c = false := prun_end (l := l.drop s.i) (c := c) (by rw [show prun (l.drop s.i) = j by omega, List.getElem?_drop]; exact hcc)
        have HI := hide (show ∀ h : ((s.i : Int) + (j : Int)).toNat < (bs l).size, ((((bs l)[((s.i : Int) + (j : Int)).toNat]'h).toNat : Nat) : Int) = (c.toNat : Int) from fun h => by rw [bs_get l _ c c.toNat (by rw [show ((s.i : Int) + (j : Int)).toNat = s.i + j by omega]; exact hcc) rfl h])
        have d0 : decide ((s.i : Int) + (j : Int) < (l.length : Int)) = true := by simp; omega
        clear hst hcc hp hjm hrun
        go_wp2_with fail
        go_region_held3 (fun w' => w'.cell? ⟨g, 0, none⟩ = some (.string (bs l)) ∧ w'.cell? ⟨g, 1, none⟩ = some (.int .i64 ((s.i + j : Nat) : Int)))
          (first
            | with_reducible exact ⟨q0, q1⟩
            | with_reducible exact ⟨p0, p1⟩
            | fail)
          (first
            | (go_at_call 89; (with_reducible refine (isd_at c _ _ (HI.out _)).mono ?_); rintro e w' ⟨rfl, rfl⟩)
            | fail)
        have t1 := hpd.cell1
        have t0 := hpd.cell0
        rw [PS.dig1_i] at t1
        by_cases h0 : j = 0
        · have HZ := hide h0
          have z0 : ((s.i : Int) + (j : Int) == (s.i : Int)) = true := by simp; omega
          rw [HM.out] at t1
          clear h0
          go_wp2_with fail
          refine (fail_calls g l (s.dig1 l) (s.i + j) 4 _ _ _ (by simp) rfl hpd).mono ?_
          rintro e w9 ⟨rfl, h9, hg9⟩
          have hd9 : (s.dig1 l).fail (s.i + j) 4 = s.dig l := by unfold PS.dig; rw [HM.out, if_pos HZ.out]
          rw [hd9] at h9
          have g9 := Go.Lib.grownBy_trans gd hg9
          have u0 := h9.drew.cell0
          have u1 := h9.drew.cell1
          have v0 := h9.cell0
          have v1 := h9.cell1
          rw [PS.dig_i, HM.out] at u1 v1
          have hx := HX.out
          go_wp2_with fail
          go_region
          all_goals go_wp2
          all_goals go_ret
          all_goals exact ⟨by rw [HT.out]; rfl, h9.drew, Go.Lib.grownBy_trans g9 (grown_drewP w9 _)⟩
        · have HZ := hide h0
          have z0 : ((s.i : Int) + (j : Int) == (s.i : Int)) = false := by simp; omega
          rw [HM.out] at t1
          have hd9 : s.dig1 l = s.dig l := by unfold PS.dig; rw [HM.out, if_neg HZ.out]
          have h9 := hpd.drew
          rw [hd9] at h9
          have u0 := h9.cell0
          have u1 := h9.cell1
          rw [PS.dig_i, HM.out] at u1
          have hx := HX.out
          clear h0
          go_wp2_with fail
          go_region
          all_goals go_wp2
          all_goals go_ret
          all_goals exact ⟨by rw [HT.out]; rfl, h9, Go.Lib.grownBy_trans gd (grown_drewP wr.drew _)⟩
      · have d0 : decide ((s.i : Int) + (j : Int) < (l.length : Int)) = false := by simp; omega
        clear hst hp hjm hrun
        go_wp2_with fail
        go_region
        have t1 := hpd.cell1
        have t0 := hpd.cell0
        rw [PS.dig1_i] at t1
        by_cases h0 : j = 0
        · have HZ := hide h0
          have z0 : ((s.i : Int) + (j : Int) == (s.i : Int)) = true := by simp; omega
          rw [HM.out] at t1
          clear h0
          go_wp2_with fail
          refine (fail_calls g l (s.dig1 l) (s.i + j) 4 _ _ _ (by simp) rfl hpd).mono ?_
          rintro e w9 ⟨rfl, h9, hg9⟩
          have hd9 : (s.dig1 l).fail (s.i + j) 4 = s.dig l := by unfold PS.dig; rw [HM.out, if_pos HZ.out]
          rw [hd9] at h9
          have g9 := Go.Lib.grownBy_trans gd hg9
          have u0 := h9.drew.cell0
          have u1 := h9.drew.cell1
          have v0 := h9.cell0
          have v1 := h9.cell1
          rw [PS.dig_i, HM.out] at u1 v1
          have hx := HX.out
          go_wp2_with fail
          go_region
          all_goals go_wp2
          all_goals go_ret
          all_goals exact ⟨by rw [HT.out]; rfl, h9.drew, Go.Lib.grownBy_trans g9 (grown_drewP w9 _)⟩
        · have HZ := hide h0
          have z0 : ((s.i : Int) + (j : Int) == (s.i : Int)) = false := by simp; omega
          rw [HM.out] at t1
          have hd9 : s.dig1 l = s.dig l := by unfold PS.dig; rw [HM.out, if_neg HZ.out]
          have h9 := hpd.drew
          rw [hd9] at h9
          have u0 := h9.cell0
          have u1 := h9.cell1
          rw [PS.dig_i, HM.out] at u1
          have hx := HX.out
          clear h0
          go_wp2_with fail
          go_region
          all_goals go_wp2
          all_goals go_ret
          all_goals exact ⟨by rw [HT.out]; rfl, h9, Go.Lib.grownBy_trans gd (grown_drewP wr.drew _)⟩
end Go.Proofs.YtjpchbcenbjibaaGreatDoor
