/-
  The specification's Parse.
-/
import Derived.Test.YtjpchbcenbjibaaDoorEn0
import Derived.Test.YtjpchbcenbjibaaDoorEn1
import Derived.Test.YtjpchbcenbjibaaDoorEn2
import Derived.Test.YtjpchbcenbjibaaDoorEn3
import Derived.Test.YtjpchbcenbjibaaDoorEp0
import Derived.Test.YtjpchbcenbjibaaDoorEp1
import Derived.Test.YtjpchbcenbjibaaDoorEp2
import Derived.Test.YtjpchbcenbjibaaDoorEp3
namespace Go.Proofs.YtjpchbcenbjibaaDoor
open Go.RowKit
set_option linter.unusedVariables false
set_option linter.unusedSimpArgs false

theorem ps_empty (w : World) : Calls Tryd.prog 12 #[.string (bs [])] w (GP w (pparse [])) := by
  have hl : ([] : List UInt8).length ≤ 100000 := Nat.zero_le _
  have hs := bs_size []
  have hsz : (bs []).size = 0 := rfl
  have ha1 : 0 ≤ ([] : List UInt8).length := Nat.le_refl _
  have hk4 : 0 + 0 ≤ 4000 := by omega
  have HP := hide (show pparse [] = (0, 0, 4) from rfl)
  have HK := hide (show prun (([] : List UInt8).drop 0) = 0 from rfl)
  clear hs
  have br_1 : Sq ((w).alloc EQ0) (w.heap.size) (.bool false) (.slice none 0 0) (.slice none 0 0) := by have h_ := Sq.new (w) (.bool false) (.slice none 0 0) (.slice none 0 0); exact h_
  have F1 := (Below.refl w.heap.size w).alloc (Nat.le_refl _) EQ0
  go_enter Tryd.func12, Tryd.ntmps12
  go_wp2_with fail
  refine (run_at [] 0 0 0 _ _ _ rfl rfl HK.out hl ha1 hk4).mono ?_
  rintro e w2 ⟨A2, n2, c2, E2, U2, rfl, hE2, hU2, num, b2⟩
  have br_2 := br_1.below b2 br_1.lt
  have F2 := below_then F1 (Nat.le_refl _) b2
  have br_u2 := br_2.cell0
  have br_v2 := br_2.cell1
  have br_w2 := br_2.cell2
  have e0 : 0 ≤ E2 := by omega
  have e1 : E2 ≤ 1000000 := by omega
  have e2 : (E2 == 0) = true := by rw [hE2]; rfl
  clear hE2 hU2
  have br_f02 := br_2.frozen 0
  have br_f12 := br_2.frozen 1
  have br_f22 := br_2.frozen 2
  go_wp2_with fail
  refine bodyPost_ret (v := .tuple #[.agg #[.bool false, .slice none 0 0, .slice none 0 0], .int .i64 (0), .int .i64 4]) (by simp [results, Tryd.results12, go_sem, (br_2.set0 (.bool false)).cell0, ((br_2.set0 (.bool false)).set1 (.slice none 0 0)).cell1, (((br_2.set0 (.bool false)).set1 (.slice none 0 0)).set2 (.slice none 0 0)).cell2]) rfl ((gp_end (0, 0, 4) _ _ (rfl) rfl F2 (Nat.le_refl _) br_2 (cq_zero _)).to HP.out)
theorem ps_neg (l : List UInt8) (w : World) (hl : l.length ≤ 100000) (h0 : l.head? = some 45) : Calls Tryd.prog 12 #[.string (bs l)] w (GP w (pparse l)) := by
  obtain ⟨k, hk⟩ : ∃ k, prun (l.drop 1) = k := ⟨_, rfl⟩
  obtain ⟨j, hj⟩ : ∃ j, prun (l.drop (1 + k + 1)) = j := ⟨_, rfl⟩
  by_cases c1 : 4000 < k
  · exact ps_neg_limit l k w hl h0 hk c1
  have hk4 : 0 + k ≤ 4000 := by omega
  by_cases c2 : k = 0
  · exact ps_neg_none l k w hl h0 hk c2
  by_cases c3 : 1 + k = l.length
  · exact ps_neg_int l k w hl h0 hk hk4 c2 c3
  by_cases c4 : l[1 + k]? = some 47
  · by_cases c5 : 4000 < k + j
    · exact ps_neg_limit247 l k j w hl h0 hk hj hk4 c2 c3 c4 c5
    by_cases c6 : j = 0
    · exact ps_neg_none247 l k j w hl h0 hk hj hk4 c2 c3 c4 c6
    by_cases c7 : 1 + k + 1 + j = l.length
    · by_cases c8 : dval ((l.drop (1 + k + 1)).take j) = 0
      · exact ps_neg_zero47 l k j w hl h0 hk hj hk4 c2 c3 c4 (by omega) c6 c7 c8
      · exact ps_neg_frac47 l k j w hl h0 hk hj hk4 c2 c3 c4 (by omega) c6 c7 c8
    · exact ps_neg_more47 l k j w hl h0 hk hj hk4 c2 c3 c4 (by omega) c6 c7
  by_cases c4' : l[1 + k]? = some 46
  · by_cases c5 : 4000 < k + j
    · exact ps_neg_limit246 l k j w hl h0 hk hj hk4 c2 c3 c4' c5
    by_cases c6 : j = 0
    · exact ps_neg_none246 l k j w hl h0 hk hj hk4 c2 c3 c4' c6
    by_cases c7 : 1 + k + 1 + j = l.length
    · exact ps_neg_dec46 l k j w hl h0 hk hj hk4 c2 c3 c4' (by omega) c6 c7
    · exact ps_neg_more46 l k j w hl h0 hk hj hk4 c2 c3 c4' (by omega) c6 c7
  · exact ps_neg_other l k w hl h0 hk hk4 c2 c3 (fun h => h.elim c4 c4')
theorem ps_pos (l : List UInt8) (w : World) (hl : l.length ≤ 100000) (h1 : l ≠ []) (h0 : l.head? ≠ some 45) : Calls Tryd.prog 12 #[.string (bs l)] w (GP w (pparse l)) := by
  obtain ⟨k, hk⟩ : ∃ k, prun (l.drop 0) = k := ⟨_, rfl⟩
  obtain ⟨j, hj⟩ : ∃ j, prun (l.drop (0 + k + 1)) = j := ⟨_, rfl⟩
  by_cases c1 : 4000 < k
  · exact ps_pos_limit l k w hl h1 h0 hk c1
  have hk4 : 0 + k ≤ 4000 := by omega
  by_cases c2 : k = 0
  · exact ps_pos_none l k w hl h1 h0 hk c2
  by_cases c3 : 0 + k = l.length
  · exact ps_pos_int l k w hl h1 h0 hk hk4 c2 c3
  by_cases c4 : l[0 + k]? = some 47
  · by_cases c5 : 4000 < k + j
    · exact ps_pos_limit247 l k j w hl h1 h0 hk hj hk4 c2 c3 c4 c5
    by_cases c6 : j = 0
    · exact ps_pos_none247 l k j w hl h1 h0 hk hj hk4 c2 c3 c4 c6
    by_cases c7 : 0 + k + 1 + j = l.length
    · by_cases c8 : dval ((l.drop (0 + k + 1)).take j) = 0
      · exact ps_pos_zero47 l k j w hl h1 h0 hk hj hk4 c2 c3 c4 (by omega) c6 c7 c8
      · exact ps_pos_frac47 l k j w hl h1 h0 hk hj hk4 c2 c3 c4 (by omega) c6 c7 c8
    · exact ps_pos_more47 l k j w hl h1 h0 hk hj hk4 c2 c3 c4 (by omega) c6 c7
  by_cases c4' : l[0 + k]? = some 46
  · by_cases c5 : 4000 < k + j
    · exact ps_pos_limit246 l k j w hl h1 h0 hk hj hk4 c2 c3 c4' c5
    by_cases c6 : j = 0
    · exact ps_pos_none246 l k j w hl h1 h0 hk hj hk4 c2 c3 c4' c6
    by_cases c7 : 0 + k + 1 + j = l.length
    · exact ps_pos_dec46 l k j w hl h1 h0 hk hj hk4 c2 c3 c4' (by omega) c6 c7
    · exact ps_pos_more46 l k j w hl h1 h0 hk hj hk4 c2 c3 c4' (by omega) c6 c7
  · exact ps_pos_other l k w hl h1 h0 hk hk4 c2 c3 (fun h => h.elim c4 c4')
theorem rparse_calls (l : List UInt8) (w : World) (hl : l.length ≤ 100000) : Calls Tryd.prog 12 #[.string (bs l)] w (GP w (pparse l)) := by
  by_cases h1 : l = []
  · subst h1; exact ps_empty w
  · by_cases h0 : l.head? = some 45
    · exact ps_neg l w hl h0
    · exact ps_pos l w hl h1 h0
end Go.Proofs.YtjpchbcenbjibaaDoor
