/-
  The specification's Fixed.
-/
import Derived.Test.YtjpchbcenbjibaaGreatDoorF0
import Derived.Test.YtjpchbcenbjibaaGreatDoorF1
import Derived.Test.YtjpchbcenbjibaaGreatDoorF2
import Derived.Test.YtjpchbcenbjibaaGreatDoorF3
namespace Go.Proofs.YtjpchbcenbjibaaGreatDoor
open Go.RowKit
set_option linter.unusedVariables false
set_option linter.unusedSimpArgs false

theorem rfixed_q (s : Bool) (A : Option Addr) (n c : Nat) (B : Option Addr) (m d : Nat) (q : Rat) (K p : Nat) (w : World) (h : Cq w s A n c B m d q) (hs : Qs K q) (hK : K ≤ 1000) (hK1 : 1 ≤ K) (hp : p ≤ 4000) :
    Calls Tryz.prog 9 #[.agg #[.bool s, .slice A n c, .slice B m d], .int .i64 (p : Int)] w (Asks w (.tuple #[.string (bs (ffix q p)), .int .i64 0])) := by
  obtain ⟨hx, hy, he⟩ := h
  have hx1 : Ny w A n c K q.num.natAbs := hx.ny hs.1
  have hden := q.den_nz
  by_cases h1 : q.den = 1
  · have hm : m = 0 := by have := hy.len; rw [qd, if_pos h1] at this; exact this.symm
    have hV : q.num.natAbs * 10 ^ p * 2 + 1 = q.num.natAbs * 10 ^ p * 2 + q.den := by rw [h1]
    have hQ : (q.num.natAbs * 10 ^ p * 2 + q.den) / (1 * 2) = fixn q p := by rw [fixn, h1]
    cases s
    · have hn : ¬ q.num < 0 := by simpa using he.symm
      by_cases h0 : p = 0
      · exact rfix_pos_int_0 A n c B m d _ K p _ (fixn q p) _ (ffix q p) w hx1 hm hK hK1 hp h0 hV hQ rfl (by unfold ffix; simp only; rw [if_neg (fun e => hn e.1), if_pos h0]; rfl)
      · exact rfix_pos_int_p A n c B m d _ K p _ (fixn q p) _ (ffix q p) w hx1 hm hK hK1 hp (by omega) hV hQ rfl (by unfold ffix; simp only; rw [if_neg (fun e => hn e.1), if_neg (by omega)]; rfl)
    · have hn : q.num < 0 := by simpa using he.symm
      by_cases hF : fixn q p = 0
      · by_cases h0 : p = 0
        · exact rfix_negz_int_0 A n c B m d _ K p _ (fixn q p) _ (ffix q p) w hx1 hm hK hK1 hp h0 hV hQ hF rfl (by unfold ffix; simp only; rw [if_neg (fun e => e.2 hF), if_pos h0]; rfl)
        · exact rfix_negz_int_p A n c B m d _ K p _ (fixn q p) _ (ffix q p) w hx1 hm hK hK1 hp (by omega) hV hQ hF rfl (by unfold ffix; simp only; rw [if_neg (fun e => e.2 hF), if_neg (by omega)]; rfl)
      · by_cases h0 : p = 0
        · exact rfix_neg_int_0 A n c B m d _ K p _ (fixn q p) _ (ffix q p) w hx1 hm hK hK1 hp h0 hV hQ hF rfl (by unfold ffix; simp only; rw [if_pos ⟨hn, hF⟩, if_pos h0])
        · exact rfix_neg_int_p A n c B m d _ K p _ (fixn q p) _ (ffix q p) w hx1 hm hK hK1 hp (by omega) hV hQ hF rfl (by unfold ffix; simp only; rw [if_pos ⟨hn, hF⟩, if_neg (by omega)])
  · have hy1 : Ny w B m d K q.den := by rw [qd, if_neg h1] at hy; exact hy.ny hs.2
    have hm : 0 < m := by have := ny_pos hy1; omega
    cases s
    · have hn : ¬ q.num < 0 := by simpa using he.symm
      by_cases h0 : p = 0
      · exact rfix_pos_frac_0 A n c B m d _ _ K p _ (fixn q p) _ (ffix q p) w hx1 hy1 hm (by omega) hK hK1 hp h0 rfl rfl rfl (by unfold ffix; simp only; rw [if_neg (fun e => hn e.1), if_pos h0]; rfl)
      · exact rfix_pos_frac_p A n c B m d _ _ K p _ (fixn q p) _ (ffix q p) w hx1 hy1 hm (by omega) hK hK1 hp (by omega) rfl rfl rfl (by unfold ffix; simp only; rw [if_neg (fun e => hn e.1), if_neg (by omega)]; rfl)
    · have hn : q.num < 0 := by simpa using he.symm
      by_cases hF : fixn q p = 0
      · by_cases h0 : p = 0
        · exact rfix_negz_frac_0 A n c B m d _ _ K p _ (fixn q p) _ (ffix q p) w hx1 hy1 hm (by omega) hK hK1 hp h0 rfl rfl hF rfl (by unfold ffix; simp only; rw [if_neg (fun e => e.2 hF), if_pos h0]; rfl)
        · exact rfix_negz_frac_p A n c B m d _ _ K p _ (fixn q p) _ (ffix q p) w hx1 hy1 hm (by omega) hK hK1 hp (by omega) rfl rfl hF rfl (by unfold ffix; simp only; rw [if_neg (fun e => e.2 hF), if_neg (by omega)]; rfl)
      · by_cases h0 : p = 0
        · exact rfix_neg_frac_0 A n c B m d _ _ K p _ (fixn q p) _ (ffix q p) w hx1 hy1 hm (by omega) hK hK1 hp h0 rfl rfl hF rfl (by unfold ffix; simp only; rw [if_pos ⟨hn, hF⟩, if_pos h0])
        · exact rfix_neg_frac_p A n c B m d _ _ K p _ (fixn q p) _ (ffix q p) w hx1 hy1 hm (by omega) hK hK1 hp (by omega) rfl rfl hF rfl (by unfold ffix; simp only; rw [if_pos ⟨hn, hF⟩, if_neg (by omega)])
end Go.Proofs.YtjpchbcenbjibaaGreatDoor
