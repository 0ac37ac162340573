/-
  The walk of DecimalLong: its ways together.
-/
import Derived.Test.YtjpchbcenbjibaaDoorHn0
import Derived.Test.YtjpchbcenbjibaaDoorHn1
import Derived.Test.YtjpchbcenbjibaaDoorHn2
import Derived.Test.YtjpchbcenbjibaaDoorHp0
import Derived.Test.YtjpchbcenbjibaaDoorHp1
import Derived.Test.YtjpchbcenbjibaaDoorHp2
namespace Go.Proofs.YtjpchbcenbjibaaDoor
open Go.RowKit
set_option linter.unusedVariables false
set_option linter.unusedSimpArgs false

theorem law_long (ng : Bool) (fr tn sp : Int) (tl : List UInt8) (w : World) (h0 : -9223372036854775808 ≤ fr ∧ fr ≤ 9223372036854775807) (hs0 : 0 ≤ sp) (hs1 : sp ≤ 255) : Calls Tryd.prog 5 #[.agg #[.bool ng, .int .i64 fr, .int .i64 tn, .int .u8 sp, .string (bs tl)]] w (fun e w' => e = .returned (.bool true) ∧ Below w.heap.size w w') := by
  by_cases a1 : fr < 0
  · exact ll_fr0 ng fr tn sp tl w a1
  by_cases a2 : 4100 < fr
  · exact ll_fr1 ng fr tn sp tl w a2
  by_cases a3 : tn < 0
  · exact ll_to0 ng fr tn sp tl w (by omega) (by omega) a3
  by_cases a4 : 4100 < tn
  · exact ll_to1 ng fr tn sp tl w (by omega) (by omega) a4
  by_cases a5 : tl.length ≤ 20
  · obtain ⟨F, hF⟩ : ∃ F : Nat, fr = (F : Int) := ⟨fr.toNat, by omega⟩
    obtain ⟨T, hT⟩ : ∃ T : Nat, tn = (T : Int) := ⟨tn.toNat, by omega⟩
    have hr : sp % 3 = 0 ∨ sp % 3 = 1 ∨ sp % 3 = 2 := by omega
    cases ng
    · rcases hr with hr | hr | hr
      · exact ll_p0 fr tn sp tl w F T hF hT (by omega) (by omega) a5 hs0 hs1 hr
      · exact ll_p1 fr tn sp tl w F T hF hT (by omega) (by omega) a5 hs0 hs1 hr
      · exact ll_p2 fr tn sp tl w F T hF hT (by omega) (by omega) a5 hs0 hs1 hr
    · rcases hr with hr | hr | hr
      · exact ll_n0 fr tn sp tl w F T hF hT (by omega) (by omega) a5 hs0 hs1 hr
      · exact ll_n1 fr tn sp tl w F T hF hT (by omega) (by omega) a5 hs0 hs1 hr
      · exact ll_n2 fr tn sp tl w F T hF hT (by omega) (by omega) a5 hs0 hs1 hr
  · exact ll_tail ng fr tn sp tl w (by omega) (by omega) (by omega) (by omega) a5
end Go.Proofs.YtjpchbcenbjibaaDoor
