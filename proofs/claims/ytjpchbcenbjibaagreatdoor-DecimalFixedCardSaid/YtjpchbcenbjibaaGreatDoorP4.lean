/-
  The program's Text, Parse, Fixed.
-/
import Derived.Test.YtjpchbcenbjibaaGreatDoorPw
import Derived.Test.YtjpchbcenbjibaaGreatDoorPy
import Derived.Test.YtjpchbcenbjibaaGreatDoorD5
import Derived.Test.YtjpchbcenbjibaaGreatDoorD6
namespace Go.Proofs.YtjpchbcenbjibaaGreatDoor
open Go.RowKit
set_option linter.unusedVariables false
set_option linter.unusedSimpArgs false

theorem number_calls (g : Nat) (l : List UInt8) (w : World) (h : Pz w g l ⟨0, 0, 0, 0⟩) (hl : l.length ≤ 100000) :
    Calls Tryz.prog 31 #[.pointer (some ⟨g, 0, none⟩)] w (GNum w g l) := by
  by_cases h7 : l[(st2 l).i]? = some 47
  · by_cases h0 : dval ((st2 l).skip.txt l) = 0
    · exact number_A0 g l w h hl h7 h0
    · exact number_A1 g l w h hl h7 h0
  · by_cases h6 : l[(st2 l).i]? = some 46
    · exact number_B g l w h hl h7 h6
    · exact number_C g l w h hl h7 h6
theorem cq_0 (w : World) : Cq w false none 0 0 none 0 0 0 := ⟨Rd.empty _ _ _, Rd.empty _ _ _, by decide⟩
theorem gp_drew {w w' : World} {r : Rat × Nat × Nat} {e : Ending} (h : GP w r e w') : GP w r e w'.drew := by
  obtain ⟨s, A, n, c, B, m, d, he, hc, hb⟩ := h
  exact ⟨s, A, n, c, B, m, d, he, hc.below (Below.refl _ _).drew, hb.drew⟩
set_option maxHeartbeats 1000000 in
theorem parse_calls (l : List UInt8) (w : World) (hl : l.length ≤ 100000) : Calls Tryz.prog 10 #[.string (bs l)] w (GP w (pparse l)) := by
  have pz_1 : Pz ((w.alloc EQ0).alloc (.cells #[.string (bs l), .int .i64 0, .int .i64 0, .int .i64 0, .int .i64 0] 57)) (w.heap.size + 1) l ⟨0, 0, 0, 0⟩ := by
    have h := heap_alloc_new (w.alloc EQ0) (.cells #[.string (bs l), .int .i64 0, .int .i64 0, .int .i64 0, .int .i64 0] 57)
    rw [World.size_alloc] at h
    exact h
  have br_1 := (Sq.new w (.bool false) (.slice none 0 0) (.slice none 0 0)).alloc (.cells #[.string (bs l), .int .i64 0, .int .i64 0, .int .i64 0, .int .i64 0] 57)
  have F1 := ((Below.refl w.heap.size w).alloc (Nat.le_refl _) EQ0).alloc (by simp) (.cells #[.string (bs l), .int .i64 0, .int .i64 0, .int .i64 0, .int .i64 0] 57)
  go_enter Tryz.func10, Tryz.ntmps10
  go_wp2_with fail
  refine (number_calls _ l _ pz_1 hl).mono ?_
  rintro e w2 ⟨s, A, n, c, B, m, d, S, x, rfl, k2, pz_2, ho, gr⟩
  have br_2 := br_1.grownZ gr (by omega)
  have F2 := F1.grown gr (by simp; omega) (fun k e => by cases e; omega)
  have pz_3 := pz_2.alloc (EQ s A n c B m d)
  have br_3 := br_2.alloc (EQ s A n c B m d)
  have k3 := k2.alloc (EQ s A n c B m d)
  have F3 := F2.alloc F2.size (EQ s A n c B m d)
  have bx_3 := Sq.new w2 (.bool s) (.slice A n c) (.slice B m d)
  have z3 := pz_3.cell3
  have z4 := pz_3.cell4
  have x0 := bx_3.cell0
  have x1 := bx_3.cell1
  have x2 := bx_3.cell2
  have f0 := br_3.frozen 0
  have f1 := br_3.frozen 1
  have f2 := br_3.frozen 2
  have r0 := br_3.cell0
  have r1 := br_3.cell1
  have r2 := br_3.cell2
  by_cases h0 : S.e = 0
  · have d0 : ((S.e : Int) != 0) = false := by simp [h0]
    have hp : pparse l = (x, 0, 0) := by rw [← ho]; unfold PS.out; rw [if_pos h0]
    have HP := hide hp
    clear h0 ho hp
    go_wp2_with fail
    refine bodyPost_ret (v := .tuple #[.agg #[.bool s, .slice A n c, .slice B m d], .int .i64 0, .int .i64 0]) (by simp [results, Tryz.results10, go_sem, (br_3.set0 (.bool s)).cell0, ((br_3.set0 (.bool s)).set1 (.slice A n c)).cell1, (((br_3.set0 (.bool s)).set1 (.slice A n c)).set2 (.slice B m d)).cell2]) rfl ((gp_end (x, 0, 0) _ _ rfl rfl F3 (Nat.le_refl _) br_3 k3).to HP.out)
  · have d0 : ((S.e : Int) != 0) = true := by simp [h0]
    have hp : pparse l = (0, S.o, S.e) := by rw [← ho]; unfold PS.out; rw [if_neg h0]
    have HP := hide hp
    clear h0 ho hp
    go_wp2_with fail
    go_region
    all_goals go_wp2_with fail
    all_goals refine bodyPost_ret (v := .tuple #[.agg #[.bool false, .slice none 0 0, .slice none 0 0], .int .i64 (S.o : Int), .int .i64 (S.e : Int)]) (by simp [results, Tryz.results10, go_sem, (br_3.set0 (.bool false)).cell0, ((br_3.set0 (.bool false)).set1 (.slice none 0 0)).cell1, (((br_3.set0 (.bool false)).set1 (.slice none 0 0)).set2 (.slice none 0 0)).cell2, (br_3.set0 (.bool false)).drew.cell0, ((br_3.set0 (.bool false)).set1 (.slice none 0 0)).drew.cell1, (((br_3.set0 (.bool false)).set1 (.slice none 0 0)).set2 (.slice none 0 0)).drew.cell2]) rfl (gp_drew ((gp_end (0, S.o, S.e) _ _ rfl rfl F3 (Nat.le_refl _) br_3 (cq_0 _)).to HP.out))
end Go.Proofs.YtjpchbcenbjibaaGreatDoor
