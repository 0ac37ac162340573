/-
  addBack.
-/
import Derived.Test.YtefcpcekoihgjaaW12
import Derived.Deep.RegionWith
import Derived.Deep.RegionHeld3
namespace Go.Proofs.Ytefcpcekoihgjaa
open Go.RowKit
set_option linter.unusedVariables false
set_option linter.unusedSimpArgs false

set_option maxHeartbeats 2000000 in
theorem ab_calls (g o m cs d : Nat) (B : Option Addr) (S ys : List Nat) (w : World) (hb : Blk w g (arr S)) (hs : Sm S) (ho : o + (m + 1) ≤ S.length) (hcs : m + 1 ≤ cs) (h2 : Rd w B m d ys) (ha : Away B m g) (hS : S.length ≤ 4194304) :
    Calls Try.prog 72 #[.slice (some ⟨g, o, none⟩) (m + 1) cs, .slice B m d] w (AbPost w g o m S ys) := by
  have hbc : w.cell? ⟨g, o + m, none⟩ = some (.int .u32 (lim S (o + m) : Nat)) := blk_cell hb (by omega)
  have hbf := hb.frozen (o + m)
  have hl := hs.lim (o + m)
  have hc : Calls Try.prog 61 #[.slice (some ⟨g, o, none⟩) m cs, .slice B m d, .int .u32 1] w.drew fun e w' => ∃ (cc v x : Nat) (T : List Nat), e = .returned (.int .u32 (cc : Int)) ∧ IntKind.u32.wrap ((lim S (o + m) : Int) + (cc : Int)) = (v : Int) ∧
      w'.cell? ⟨g, o + m, none⟩ = some (.int .u32 (lim S (o + m) : Nat)) ∧ w'.frozen? ⟨g, o + m, none⟩ = false ∧ Hid (AbPost w g o m S ys (.returned (.tuple #[])) (w'.setCell ⟨g, o + m, none⟩ (.int .u32 (v : Int)))) := by
    refine (am_calls g o m cs d B S ys 1 w.drew hb hs (by omega) (by omega) (h2.below (Below.refl _ _).drew) ha (by omega) hS).mono ?_
    rintro e w' ⟨cc, T, rfl, hcc, hg, hbl, HAM⟩
    obtain ⟨v, x, hv1, hv2, hv3⟩ := u32_plus hl hcc
    have he := ab_end ho h2.len hv2 hv3 HAM
    have hT : T.length = S.length := HAM.1
    have e1 : lim T (o + m) = lim S (o + m) := HAM.2.2.1 _ (by omega)
    refine ⟨cc, v, x, T, rfl, hv1, by rw [← e1]; exact blk_cell hbl (by omega), hbl.frozen _, ⟨T.set (o + m) v, x, rfl, ?_, blk_set hbl _ v, he.1, he.2⟩⟩
    exact grown_set (w := w) ⟨hg.os, hg.tape, hg.output, hg.size, hg.block⟩ _ _
  have HC := hide hc
  clear hc
  go_enter Try.func72, Try.ntmps72
  go_wp2
  go_region_with (go_at_call 61; refine (unhide HC).mono ?_; rintro e w' ⟨cc, v, x, T, rfl, hv1, hcell, hfr, HF⟩)
  all_goals go_wp2
  all_goals go_end0
  all_goals exact HF.out
end Go.Proofs.Ytefcpcekoihgjaa
